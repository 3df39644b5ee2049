import PyProof.Rows.All
import Wide.All
import OpenK.AllK
import Wide.FinOn
import Lean
import PyProof.EqAt
import PyProof.EqKinds
import PyProof.TupleCall
import PySem.Challenge.RW_grindbench_k50_slants_refused
set_option Elab.async false
set_option linter.all false
set_option maxRecDepth 100000
set_option maxHeartbeats 1000000
namespace L2
open PySem PySem.Spec PyProof.Rows
abbrev Key := Sum Int Str
def keyIs : Key → Value → Bool
  | .inl k, v => Value.isInt k v
  | .inr x, v => Value.isStrOf x v
def keyH (w : World) : Key → Int
  | .inl k => hashInt k
  | .inr x => hashStr w x
theorem keyIs_shape : ∀ {k : Key} {v : Value}, keyIs k v = true → (∃ i t, k = Sum.inl i ∧ v = Value.int i t) ∨ (∃ x t, k = Sum.inr x ∧ v = Value.str x t)
  | .inl i, v, h => by
    obtain ⟨t, e⟩ := Value.isInt_shape (k := i) (v := v) h
    exact .inl ⟨i, t, rfl, e⟩
  | .inr x, v, h => by
    obtain ⟨t, e⟩ := Value.isStrOf_shape (x := x) (v := v) h
    exact .inr ⟨x, t, rfl, e⟩
theorem key_ll (a b : Int) : decide ((Sum.inl a : Key) = Sum.inl b) = (a == b) := by
  by_cases e : a = b
  · subst e; simp
  · have h : ¬ (Sum.inl a : Key) = Sum.inl b := fun q => e (Sum.inl.inj q)
    rw [decide_eq_false h]
    exact (beq_eq_false_iff_ne.mpr e).symm
theorem key_rr (a b : Str) : decide ((Sum.inr a : Key) = Sum.inr b) = decide (a = b) := by
  by_cases e : a = b
  · subst e; simp
  · have h : ¬ (Sum.inr a : Key) = Sum.inr b := fun q => e (Sum.inr.inj q)
    rw [decide_eq_false h, decide_eq_false e]
theorem key_lr (a : Int) (b : Str) : decide ((Sum.inl a : Key) = Sum.inr b) = false := decide_eq_false (fun q => nomatch q)
theorem key_rl (a : Str) (b : Int) : decide ((Sum.inr a : Key) = Sum.inl b) = false := decide_eq_false (fun q => nomatch q)
def mixKind (prog : Program) (w : World) : PySem.KeyKind prog w Key where
  is := keyIs
  hash := keyH w
  inj := fun v a b ha hb => by
    rcases keyIs_shape ha with ⟨i, t, rfl, rfl⟩ | ⟨x, t, rfl, rfl⟩
    · rcases keyIs_shape hb with ⟨j, u, rfl, e⟩ | ⟨y, u, rfl, e⟩
      · injection e with e1 _; rw [e1]
      · exact nomatch e
    · rcases keyIs_shape hb with ⟨j, u, rfl, e⟩ | ⟨y, u, rfl, e⟩
      · exact nomatch e
      · injection e with e1 _; rw [e1]
  byValue := fun k v h => by
    rcases keyIs_shape h with ⟨i, t, rfl, rfl⟩ | ⟨x, t, rfl, rfl⟩ <;> rfl
  pyHash := fun hv h => by
    rcases keyIs_shape hv with ⟨i, t, rfl, rfl⟩ | ⟨x, t, rfl, rfl⟩
    · exact wpAny_pyHash_int h
    · exact wpAny_pyHash_str h
  eqBool := fun hu hv h => by
    rcases keyIs_shape hu with ⟨i, t, rfl, rfl⟩ | ⟨x, t, rfl, rfl⟩
    · rcases keyIs_shape hv with ⟨j, u, rfl, rfl⟩ | ⟨y, u, rfl, rfl⟩
      · rw [key_ll] at h; exact wpAny_eqBool_int h
      · rw [key_lr] at h; exact SeqAt.EqAt.int_str i t y u _ _ _ _ h
    · rcases keyIs_shape hv with ⟨j, u, rfl, rfl⟩ | ⟨y, u, rfl, rfl⟩
      · rw [key_rl] at h; exact SeqAt.EqAt.str_int x t j u _ _ _ _ h
      · rw [key_rr] at h; exact wpAny_eqBool_str h
  «strs» := fun k x t v h => by
    rcases keyIs_shape h with ⟨i, u, rfl, e⟩ | ⟨y, u, rfl, e⟩
    · exact nomatch e
    · injection e with e1 _
      subst e1
      cases v <;> rfl
end L2
namespace L2
open PySem PySem.Spec PyProof.Rows
inductive V where
  | non | bl (b : Bool) | int (i : Int) | str (x : Str) | byt (b : Array UInt8) | flt (b : UInt64) | ref (a : Addr) | ty (n : String)
  deriving DecidableEq
def RelV : V → Value → Prop
  | .non, u => u = Value.none
  | .bl b, u => u = Value.bool b
  | .int i, u => ∃ t, u = Value.int i t
  | .str x, u => ∃ t, u = Value.str x t
  | .byt b, u => ∃ t, u = Value.bytes b t
  | .flt b, u => ∃ t, u = Value.float b t
  | .ref a, u => u = Value.ref a
  | .ty n, u => u = Value.type n
abbrev Vals : List V → List Value → Prop := Paired RelV
theorem Vals.length {xs : List V} {us : List Value} (r : Vals xs us) : xs.length = us.length := Paired.length r
theorem Vals.get : ∀ {xs : List V} {us : List Value} {i : Nat} {x : V}, Vals xs us → xs[i]? = some x → ∃ u, us[i]? = some u ∧ RelV x u
  | _, _, _, _, .nil, e => by simp at e
  | _, _, 0, _, .cons r _, e => by simp at e; subst e; exact ⟨_, rfl, r⟩
  | _, _, i + 1, x, .cons _ t, e => by
    obtain ⟨u, h1, h2⟩ := Vals.get (i := i) (x := x) t (by simpa using e)
    exact ⟨u, by simpa using h1, h2⟩
theorem Vals.set {x : V} {u : Value} (r : RelV x u) : ∀ {xs : List V} {us : List Value} (i : Nat), Vals xs us → Vals (xs.set i x) (us.set i u)
  | _, _, _, .nil => .nil
  | _, _, 0, .cons _ t => .cons r t
  | _, _, i + 1, .cons q t => .cons q (Vals.set r i t)
theorem Vals.append : ∀ {xs ys : List V} {us ws : List Value}, Vals xs us → Vals ys ws → Vals (xs ++ ys) (us ++ ws)
  | _, _, _, _, .nil, s => s
  | _, _, _, _, .cons r t, s => .cons r (Vals.append t s)
theorem Vals.take : ∀ {xs : List V} {us : List Value} (n : Nat), Vals xs us → Vals (xs.take n) (us.take n)
  | _, _, 0, _ => .nil
  | _, _, _ + 1, .nil => .nil
  | _, _, n + 1, .cons r t => .cons r (Vals.take n t)
theorem Vals.drop : ∀ {xs : List V} {us : List Value} (n : Nat), Vals xs us → Vals (xs.drop n) (us.drop n)
  | _, _, 0, r => r
  | _, _, _ + 1, .nil => .nil
  | _, _, n + 1, .cons _ t => Vals.drop n t
def RelO : Option V → Option Value → Prop
  | some v, some u => RelV v u
  | none, none => True
  | _, _ => False
def KV {κ : Type} : List (κ × V) → List (κ × Value) → Prop := Paired fun (p : κ × V) (q : κ × Value) => p.1 = q.1 ∧ RelV p.2 q.2
def kV : Key → V
  | .inl i => .int i
  | .inr x => .str x
inductive HO where
  /-- a list -/
  | lst (xs : List V)
  /-- a tuple (never changes) -/
  | tup (xs : List V)
  /-- a dict whose keys are ints and texts; one whose keys are tuples of ints and texts (the empty one is both) -/
  | dK (kvs : List (Key × V)) | dT (kvs : List (List Key × V))
  /-- a set of ints: its members, its size -/
  | set (S : Int → Bool) (n : Nat)
  /-- an instance of the class at C, its dict at dx, its attributes -/
  | ins (C dx : Addr) (fs : List (Str × V))
  /-- the dict of the instance at x -/
  | own (x : Addr)
  /-- the dict of an exception -/
  | xd (fs : List (Str × V))
  /-- a bound method, f of x -/
  | met (f x : Addr)
  /-- a range object lo, lo + 1, .. below hi -/
  | rng (lo hi : Int)
  /-- a thing that is known to the object (the script; a dict while a loop walks it): read, never written while it is so -/
  | frz (o : Obj) (u : HO)
  /-- a code object's table -/
  | tbl (ps : Array Value)
  /-- any other thing, by what is true of its one object (a def of one's own: SetO a S n := HO.ext fun h => ..) -/
  | ext (φ : Heap → Prop)
abbrev Hp := Addr → Option HO
def upd (H : Hp) (a : Addr) (o : HO) : Hp := fun b => if b = a then some o else H b
theorem upd_same {H : Hp} {a : Addr} {o : HO} : upd H a o a = some o := by unfold upd; rw [if_pos rfl]
theorem upd_ne {H : Hp} {a b : Addr} {o : HO} (h : b ≠ a) : upd H a o b = H b := by unfold upd; rw [if_neg h]
theorem upd_upd {H : Hp} {a : Addr} {o u : HO} : upd (upd H a o) a u = upd H a u := by
  funext b; unfold upd; split <;> rfl
theorem ne_of_none {H : Hp} {a b : Addr} {o : HO} (h : H a = some o) (h' : H b = none) : a ≠ b := by
  intro e; subst e; rw [h] at h'; cases h'
section
variable (P : Program) (w : World)
def ObjOk (H : Hp) (h : Heap) (a : Addr) : HO → Prop
  | .lst xs => xs.length ≤ sizeLine ∧ ∃ (its : List Value) (n : Nat), Vals xs its ∧ h.get? a = some { cls := .type "list", data := .seq its.toArray n }
  | .tup xs => xs.length ≤ sizeLine ∧ ∃ its : List Value, Vals xs its ∧ IsTup h a its.toArray
  | .dK kvs => kvs.length ≤ sizeLine ∧ (a == sysModules) = false ∧ ∃ vs, KV kvs vs ∧ h.DictOf (mixKind P w) a vs
  | .dT kvs => kvs.length ≤ sizeLine ∧ (a == sysModules) = false ∧ ∃ xs : List (List Key × Addr × Value),
      Paired (fun (p : List Key × V) (q : List Key × Addr × Value) => p.1 = q.1 ∧ H q.2.1 = some (.tup (p.1.map kV)) ∧ RelV p.2 q.2.2) kvs xs ∧
      ∃ o es ep, h.get? a = some o ∧ o.ExactDict ∧ o.data = .dict es ep ∧ es.toList = xs.map (entryOfKey (tupleKind (mixKind P w))) ∧ (xs.map (·.1)).Nodup
  | .set S n => h.SetOf (intKind P w) a S n
  | .ins C dx fs => H dx = some (.own a) ∧ fs.length ≤ 1000 ∧ dx ≠ a ∧ h.get? a = some (PySem.W.instObj C dx) ∧
      ∃ mA, h.Ns1 dx mA ∧ (∀ f, RelO (fs.lookup f) (mA f)) ∧ PySem.Within mA (fs.map (·.1))
  | .own _ => ∃ o, h.get? a = some o
  | .xd fs => ∃ mA, h.Ns1 a mA ∧ ∀ f, RelO (fs.lookup f) (mA f)
  | .rng lo hi => ∃ t u v, h.get? a = some { cls := .type "range", data := .fields #[.int lo t, .int hi u, .int 1 v] }
  | .frz o u => h.get? a = some o ∧ ObjOk H h a u
  | .tbl ps => h.get? a = some { cls := .none, data := .fields ps }
  | .met f x => h.get? a = some (PySem.W.methodObj (.ref f) (.ref x))
  | .ext φ => φ h ∧ (∃ o, h.get? a = some o) ∧ ∀ h1 h2 : Heap, φ h1 → (∀ o, h1.get? a = some o → h2.get? a = some o) → φ h2
def HOk (H : Hp) (h : Heap) : Prop := ∀ a o, H a = some o → ObjOk P w H h a o
end
section
variable {P : Program} {w : World} {H H' : Hp} {h h' : Heap} {a : Addr} {o : HO}
theorem ObjOk.lt (x : ObjOk P w H h a o) : a < h.objs.size := by
  cases o with
  | lst xs => obtain ⟨_, _, _, _, e⟩ := x; exact Heap.lt_size e
  | tup xs => obtain ⟨_, _, _, p⟩ := x; exact p.lt
  | dK kvs => obtain ⟨_, _, _, _, o, _, _, e, _⟩ := x; exact Heap.lt_size e
  | dT kvs => obtain ⟨_, _, _, _, o, _, _, e, _⟩ := x; exact Heap.lt_size e
  | set S n => obtain ⟨o, _, _, _, e, _⟩ := x; exact Heap.lt_size e
  | ins C dx fs => obtain ⟨_, _, _, e, _⟩ := x; exact Heap.lt_size e
  | own y => obtain ⟨_, e⟩ := x; exact Heap.lt_size e
  | xd fs => obtain ⟨_, ⟨_, _, _, e, _⟩, _⟩ := x; exact Heap.lt_size e
  | rng lo hi => obtain ⟨_, _, _, e⟩ := x; exact Heap.lt_size e
  | frz ob u => obtain ⟨e, _⟩ := x; exact Heap.lt_size e
  | tbl ps => exact Heap.lt_size (show h.get? a = some _ from x)
  | met f y => exact Heap.lt_size (show h.get? a = some _ from x)
  | ext φ => obtain ⟨_, ⟨_, e⟩, _⟩ := x; exact Heap.lt_size e
theorem Paired.mapP {α β : Type} {F G : α → β → Prop} : ∀ {l₁ : List α} {l₂ : List β}, Paired F l₁ l₂ → (∀ a b, F a b → G a b) → Paired G l₁ l₂
  | _, _, .nil, _ => .nil
  | _, _, .cons r t, f => .cons (f _ _ r) (Paired.mapP t f)
theorem ObjOk.stay (x : ObjOk P w H h a o) (k : ∀ b u, (b = a ∨ H b = some (.own a)) → h.get? b = some u → h'.get? b = some u)
    (ho : ∀ b, H b = some (.own a) → H' b = some (.own a)) (ht : ∀ b xs, H b = some (.tup xs) → H' b = some (.tup xs)) : ObjOk P w H' h' a o := by
  induction o with
  | lst xs => obtain ⟨z, its, n, r, e⟩ := x; exact ⟨z, its, n, r, k _ _ (.inl rfl) e⟩
  | tup xs => obtain ⟨z, its, r, ob, e, c⟩ := x; exact ⟨z, its, r, ob, k _ _ (.inl rfl) e, c⟩
  | dK kvs => obtain ⟨z, y, vs, r, ob, es, ep, e, c⟩ := x; exact ⟨z, y, vs, r, ob, es, ep, k _ _ (.inl rfl) e, c⟩
  | dT kvs =>
    obtain ⟨z, y, xs, r, ob, es, ep, e, c⟩ := x
    exact ⟨z, y, xs, Paired.mapP r fun p q z => ⟨z.1, ht _ _ z.2.1, z.2.2⟩, ob, es, ep, k _ _ (.inl rfl) e, c⟩
  | set S n => obtain ⟨ob, es, ep, t, e, c⟩ := x; exact ⟨ob, es, ep, t, k _ _ (.inl rfl) e, c⟩
  | ins C dx fs =>
    obtain ⟨d, z, ne, e, mA, ⟨od, es, ep, e2, c⟩, r⟩ := x
    exact ⟨ho _ d, z, ne, k _ _ (.inl rfl) e, mA, ⟨od, es, ep, k _ _ (.inr d) e2, c⟩, r⟩
  | own y => obtain ⟨ob, e⟩ := x; exact ⟨ob, k _ _ (.inl rfl) e⟩
  | xd fs => obtain ⟨mA, ⟨od, es, ep, e, c⟩, r⟩ := x; exact ⟨mA, ⟨od, es, ep, k _ _ (.inl rfl) e, c⟩, r⟩
  | rng lo hi => obtain ⟨t, u, v, e⟩ := x; exact ⟨t, u, v, k _ _ (.inl rfl) e⟩
  | frz ob u ih => obtain ⟨e, q⟩ := x; exact ⟨k _ _ (.inl rfl) e, ih q⟩
  | tbl ps =>
    have e : h.get? a = some { cls := .none, data := .fields ps } := x
    show h'.get? a = some { cls := .none, data := .fields ps }
    exact k a _ (.inl rfl) e
  | met f y =>
    have e : h.get? a = some (PySem.W.methodObj (.ref f) (.ref y)) := x
    show h'.get? a = some (PySem.W.methodObj (.ref f) (.ref y))
    exact k a _ (.inl rfl) e
  | ext φ => obtain ⟨p, ⟨o, e⟩, st⟩ := x; exact ⟨st _ _ p fun o q => k _ _ (.inl rfl) q, ⟨o, k _ _ (.inl rfl) e⟩, st⟩
theorem HOk.lt (x : HOk P w H h) (e : H a = some o) : a < h.objs.size := (x a o e).lt
theorem HOk.fresh (x : HOk P w H h) (e : h.objs.size ≤ a) : H a = none := by
  cases q : H a with
  | none => rfl
  | some u => exact absurd (Nat.lt_of_lt_of_le (x.lt q) e) (Nat.lt_irrefl _)
theorem HOk.kept (x : HOk P w H h) (k : ∀ b u, h.get? b = some u → h'.get? b = some u) : HOk P w H h' := fun a o e =>
  (x a o e).stay (fun b u _ q => k b u q) (fun _ q => q) fun _ _ q => q
theorem HOk.laid (x : HOk P w H h) (k : ∀ b u, h.get? b = some u → h'.get? b = some u) (hp : h.objs.size ≤ a) (new : ObjOk P w (upd H a o) h' a o) : HOk P w (upd H a o) h' := fun b u e => by
  have hn := x.fresh hp
  by_cases hb : b = a
  · subst hb; rw [upd_same] at e; cases e; exact new
  · rw [upd_ne hb] at e
    exact (x b u e).stay (fun c v _ q => k c v q) (fun c q => by rw [upd_ne (ne_of_none q hn)]; exact q) fun c xs q => by rw [upd_ne (ne_of_none q hn)]; exact q
end
def Rd (H : Hp) (a : Addr) (u : HO) : Prop := H a = some u ∨ ∃ o, H a = some (.frz o u)
theorem Rd.ok {P : Program} {w : World} {H : Hp} {h : Heap} {a : Addr} {u : HO} (r : Rd H a u) (x : HOk P w H h) : ObjOk P w H h a u := by
  rcases r with r | ⟨o, r⟩
  · exact x a u r
  · obtain ⟨_, q⟩ := x a _ r
    exact q
def Mut : Option HO → Prop
  | some (.lst _) => True
  | some (.dK _) => True
  | some (.dT _) => True
  | some (.set _ _) => True
  | some (.ins _ _ _) => True
  | some (.ext _) => True
  | _ => False
section
variable {P : Program} {w : World} {H : Hp} {h h' : Heap} {x e : Addr} {o' : HO}
theorem HOk.write (ok : HOk P w H h) (mu : Mut (H x)) (he : e = x ∨ H e = some (.own x)) (k : ∀ b u, b ≠ e → h.get? b = some u → h'.get? b = some u) (heo : ∃ u, h'.get? e = some u)
    (new : ObjOk P w (upd H x o') h' x o') : HOk P w (upd H x o') h' := fun b u q => by
  have nown : ∀ c y, H c = some (.own y) → c ≠ x := fun c y r z => by subst z; rw [r] at mu; exact mu
  have ntup : ∀ c xs, H c = some (.tup xs) → c ≠ x := fun c xs r z => by subst z; rw [r] at mu; exact mu
  by_cases hb : b = x
  · subst hb; rw [upd_same] at q; cases q; exact new
  · rw [upd_ne hb] at q
    by_cases hbe : b = e
    · have q' : H b = some (.own x) := by
        rcases he with z | z
        · exact absurd (hbe.trans z) hb
        · rw [hbe]; exact z
      rw [q] at q'; cases q'
      obtain ⟨v, hv⟩ := heo
      exact ⟨v, by rw [hbe]; exact hv⟩
    · refine (ok b u q).stay (fun c v hc r => k c v ?_ r) (fun c r => by rw [upd_ne (nown c b r)]; exact r) fun c xs r => by rw [upd_ne (ntup c xs r)]; exact r
      rcases hc with rfl | hc
      · exact hbe
      · rintro rfl
        rcases he with z | z
        · exact nown c b hc z
        · rw [hc] at z; cases z; exact hb rfl
end
structure Un (fs ex : List Addr) (H H' : Hp) (h h' : Heap) : Prop where
  keep : ∀ b o, h.get? b = some o → H b = none → b ∉ fs → b ∉ ex → h'.get? b = some o
  slot : ∀ b o, h.get? b = some o → H b = none → b ∈ fs → b ∉ ex → ∃ sl, h'.get? b = some { o with slots := sl }
  free : ∀ b o, h.get? b = some o → H b = none → b ∉ ex → H' b = none
  there : ∀ b o, h.get? b = some o → b ∉ ex → ∃ o', h'.get? b = some o'
  tups : ∀ b xs, H b = some (.tup xs) → H' b = some (.tup xs)
  frzs : ∀ b o u, H b = some (.frz o u) → H' b = some (.frz o u)
  tbls : ∀ b ps, H b = some (.tbl ps) → ∃ more, H' b = some (.tbl (ps ++ more))
section
variable {fs fs' ex ex' : List Addr} {H H1 H2 : Hp} {h h1 h2 h' : Heap} {a x e : Addr} {o : HO}
theorem Un.any (u : Un fs ex H H1 h h1) {b : Addr} {ob : Obj} (q : h.get? b = some ob) (n : H b = none) (hx : b ∉ ex) : ∃ sl, h1.get? b = some { ob with slots := sl } := by
  by_cases hb : b ∈ fs
  · exact u.slot b ob q n hb hx
  · exact ⟨ob.slots, u.keep b ob q n hb hx⟩
theorem Un.kept (k : ∀ b u, h.get? b = some u → h'.get? b = some u) : Un fs ex H H h h' :=
  ⟨fun b ob q _ _ _ => k b ob q, fun b ob q _ _ _ => ⟨ob.slots, k b ob q⟩, fun _ _ _ n _ => n, fun b ob q _ => ⟨ob, k b ob q⟩, fun _ _ q => q, fun _ _ _ q => q, fun _ ps q => ⟨#[], by rw [q]; simp⟩⟩
theorem Un.refl : Un fs ex H H h h := Un.kept fun _ _ q => q
theorem Un.laid (k : ∀ b u, h.get? b = some u → h'.get? b = some u) (hp : h.objs.size ≤ a) (hn : H a = none) : Un fs ex H (upd H a o) h h' where
  keep := fun b u q _ _ _ => k b u q
  slot := fun b u q _ _ _ => ⟨u.slots, k b u q⟩
  free := fun b u q n _ => by rw [upd_ne (Nat.ne_of_lt (Nat.lt_of_lt_of_le (Heap.lt_size q) hp))]; exact n
  there := fun b u q _ => ⟨u, k b u q⟩
  tups := fun b xs q => by rw [upd_ne (ne_of_none q hn)]; exact q
  frzs := fun b u xs q => by rw [upd_ne (ne_of_none q hn)]; exact q
  tbls := fun b ps q => ⟨#[], by rw [upd_ne (ne_of_none q hn), q]; simp⟩
theorem Un.write (mu : Mut (H x)) (he : e = x ∨ H e = some (.own x)) (k : ∀ b u, b ≠ e → h.get? b = some u → h'.get? b = some u) (heo : ∃ u, h'.get? e = some u) : Un fs ex H (upd H x o) h h' := by
  have hx : ∀ b, H b = none → b ≠ x := fun b n z => by subst z; rw [n] at mu; exact mu
  have hb : ∀ b, H b = none → b ≠ e := fun b n z => by
    subst z
    rcases he with r | r
    · exact hx b n r
    · rw [n] at r; cases r
  have hm : ∀ b u, H b = some u → ¬ Mut (some u) → b ≠ x := fun b u q nm z => by subst z; rw [q] at mu; exact nm mu
  refine ⟨fun b u q n _ _ => k b u (hb b n) q, fun b u q n _ _ => ⟨u.slots, k b u (hb b n) q⟩, fun b u q n _ => by rw [upd_ne (hx b n)]; exact n, fun b u q _ => ?_,
    fun b xs q => by rw [upd_ne (hm b _ q fun z => z)]; exact q, fun b u xs q => by rw [upd_ne (hm b _ q fun z => z)]; exact q, fun b ps q => ⟨#[], by rw [upd_ne (hm b _ q fun z => z), q]; simp⟩⟩
  by_cases hbe : b = e
  · subst hbe; exact heo
  · exact ⟨u, k b u hbe q⟩
end
def trk (h : Heap) (H : Hp) : List Addr := (List.range h.objs.size).filter fun a => (H a).isSome
def hidT (h : Heap) (H : Hp) : Heap := PySem.W.hideAll h (trk h H)
theorem hidT_size (h : Heap) (H : Hp) : (hidT h H).objs.size = h.objs.size := PySem.W.hideAll_size _ _
theorem hidT_get {h : Heap} {H : Hp} {b : Addr} {o : Obj} (e : h.get? b = some o) (n : H b = none) : (hidT h H).get? b = some o :=
  PySem.W.hideAll_get _ e fun hm => by
    have q : (H b).isSome = true := (List.mem_filter.mp hm).2
    rw [n] at q; simp at q
theorem of_hidT {h : Heap} {H : Hp} {b : Addr} {o : Obj} (e : (hidT h H).get? b = some o) : h.get? b = some o ∧ H b = none := by
  have e' : h.get? b = some o := PySem.W.of_hideAll (trk h H) e
  refine ⟨e', ?_⟩
  cases q : H b with
  | none => rfl
  | some x =>
    have hm : b ∈ trk h H := List.mem_filter.mpr ⟨List.mem_range.mpr (Heap.lt_size e'), by simp [q]⟩
    have z : (hidT h H).get? b = none := PySem.W.hideAll_none (trk h H) hm
    rw [z] at e; cases e
end L2
namespace L2
open PySem PySem.Spec PyProof.Rows
structure Mod (K : PySem.W.Frag) (mg : Str → Option Value) (base : Heap) : Prop where
  kin : K.In base
  glob : base.Ns mainGlobals mg
  blt : ∃ mb, base.Ns builtinsNs mb ∧ ∀ x : Str, x ≠ "__name__" → mb x = bootBuiltins x
  nolimit : base.NoLimit
structure Cx where
  prog : Program
  w : World
  K : PySem.W.Frag
  mg : Str → Option Value
  base : Heap
  A : Around
  N : List Str
  s₀ : Shared
  H₀ : Hp
  env : Env
  outer : List Env
  stack : List Env
  ex : List Addr
  fn : Str → Bool
  calm : Bool
  pn : List (Addr × Obj)
  xe : Value → Shared → Prop
def frs (l : List Env) : List Addr := l.filterMap (·.frame)
abbrev Cx.fs (X : Cx) : List Addr := frs X.outer
def Vis (sc : Scope) (x : Str) : Prop := sc.names.lookup x = some .local ∨ sc.names.lookup x = some .cell ∨ sc.names.lookup x = some .free
def Loc (sc : Scope) (x : Str) : Prop := sc.names.lookup x = some .local ∨ sc.names.lookup x = some .cell
def Look (env : Env) (h : Heap) (m : Str → Option Value) (x : Str) (u : Value) : Prop :=
  (env.kindOf x = some .local ∧ m x = some u) ∨ ((env.kindOf x = some .cell ∨ env.kindOf x = some .free) ∧ ∃ c, env.cells.lookup x = some c ∧ h.IsCell c (some u))
structure Cx.Ok (X : Cx) : Prop where
  mod : Mod X.K X.mg X.base
  kind : X.env.scope.kind = .function
  glob : X.env.globals = mainGlobals
  blt : X.env.builtins = builtinsNs
  above : X.s₀.heap.objs.size ≤ X.env.locals
  inj : ∀ x y c, X.env.cells.lookup x = some c → X.env.cells.lookup y = some c → x = y
  has : ∀ x, (X.env.kindOf x = some .cell ∨ X.env.kindOf x = some .free) → ∃ c, X.env.cells.lookup x = some c
  cab : ∀ x c, X.fn x = true → X.env.cells.lookup x = some c → X.s₀.heap.objs.size ≤ c
  hd : X.calm = true → X.A.handled = none
  frames : X.A.frames = some X.stack
  stk : X.stack = X.outer ∨ (X.stack = X.env :: X.outer ∧ X.env.frame = some X.env.locals)
  exf : ∀ b ∈ X.ex, b ≠ X.env.locals ∧ ∀ x c, X.env.cells.lookup x = some c → c ≠ b
  bs : ∀ b o, X.base.get? b = some o → X.s₀.heap.get? b = some o ∧ X.H₀ b = none
  bsz : X.base.objs.size ≤ X.s₀.heap.objs.size
  noex : ∀ b o, X.base.get? b = some o → b ∉ X.ex
  exfs : ∀ b ∈ X.ex, b ∉ X.fs
  funs : X.s₀.heap.FunFrames X.base X.outer
  frf : ∀ b ∈ X.fs, X.H₀ b = none
structure Inv (X : Cx) (pins : List (Addr × Obj)) (σ : List (Option V)) (H : Hp) (s : Shared) : Prop where
  ok : X.Ok
  os : s.os = X.s₀.os
  bare : AllBare s.gens
  base : Un X.fs X.ex X.H₀ H X.s₀.heap s.heap
  loc : ∃ m, s.heap.Ns X.env.locals m ∧ ∀ (i : Nat) (x : Str) (v : V), X.N[i]? = some x → σ[i]? = some (some v) → Vis X.env.scope x → ∃ u, RelV v u ∧ Look X.env s.heap m x u
  cell : ∀ x c, X.env.cells.lookup x = some c → ∃ v, s.heap.IsCell c v
  free : H X.env.locals = none
  freeC : ∀ x c, X.env.cells.lookup x = some c → H c = none
  pin : ∀ p ∈ X.pn ++ pins, s.heap.get? p.1 = some p.2 ∧ H p.1 = none ∧ p.1 ≠ X.env.locals ∧ p.1 ∉ X.fs ∧ ∀ v, p.2.data ≠ .cell v
  hok : HOk X.prog X.w H s.heap
  len : σ.length = X.N.length
section
variable {X : Cx} {pins : List (Addr × Obj)} {σ : List (Option V)} {H H' : Hp} {s : Shared} {h' : Heap}
theorem Cx.Ok.nofr (ok : X.Ok) {b : Addr} {o : Obj} (e : X.base.get? b = some o) : b ∉ X.fs := fun hb => by
  have := (ok.funs.mem hb).1
  rw [e] at this; cases this
theorem Inv.bs (I : Inv X pins σ H s) : ∀ b o, X.base.get? b = some o → s.heap.get? b = some o ∧ H b = none := fun b o e =>
  ⟨I.base.keep b o (I.ok.bs b o e).1 (I.ok.bs b o e).2 (I.ok.nofr e) (I.ok.noex b o e), I.base.free b o (I.ok.bs b o e).1 (I.ok.bs b o e).2 (I.ok.noex b o e)⟩
theorem Inv.bk (I : Inv X pins σ H s) : ∀ b o, X.base.get? b = some o → s.heap.get? b = some o := fun b o e => (I.bs b o e).1
theorem Inv.mod (I : Inv X pins σ H s) : Mod X.K X.mg X.base := I.ok.mod
theorem Inv.kIn (I : Inv X pins σ H s) : X.K.In s.heap := I.ok.mod.kin.keeps I.bk
theorem Inv.lt (I : Inv X pins σ H s) : X.env.locals < s.heap.objs.size := let ⟨_, hn, _⟩ := I.loc; hn.lt
theorem Inv.sz (I : Inv X pins σ H s) : X.s₀.heap.objs.size ≤ s.heap.objs.size := Nat.le_trans I.ok.above (Nat.le_of_lt I.lt)
theorem Inv.nofs (I : Inv X pins σ H s) {a : Addr} (h : s.heap.objs.size ≤ a) : a ∉ X.fs := fun hb => by
  obtain ⟨_, o, ho, _⟩ := I.ok.funs.mem hb
  exact absurd (Nat.lt_of_lt_of_le (Heap.lt_size ho) (Nat.le_trans I.sz h)) (Nat.lt_irrefl _)
theorem Inv.cne (I : Inv X pins σ H s) : ∀ x c, X.env.cells.lookup x = some c → c ≠ X.env.locals := fun x c e z => by
  obtain ⟨v, o, ho, hd⟩ := I.cell x c e
  obtain ⟨m, ⟨o', es, ep, ho', hd', _⟩, _⟩ := I.loc
  rw [z, ho'] at ho; cases ho; rw [hd'] at hd; cases hd
theorem Inv.funs (I : Inv X pins σ H s) : s.heap.FunFrames X.base X.outer := by
  have all : ∀ (l : List Env), (∀ b ∈ frs l, b ∈ X.fs) → X.s₀.heap.FunFrames X.base l → s.heap.FunFrames X.base l := by
    intro l
    induction l with
    | nil => intro _ _; trivial
    | cons env r ih =>
      intro hs hl
      obtain ⟨hk, ⟨L, o, hf, hn, ho, hd⟩, hr⟩ := hl
      have hL : L ∈ X.fs := hs L (by unfold frs; rw [List.filterMap_cons, hf]; exact List.mem_cons_self)
      obtain ⟨sl, e⟩ := I.base.slot L o ho (I.ok.frf L hL) hL fun z => I.ok.exfs L z hL
      exact ⟨hk, ⟨L, _, hf, hn, e, hd⟩, ih (fun b hb => hs b (by unfold frs; rw [List.filterMap_cons, hf]; exact List.mem_cons_of_mem _ hb)) hr⟩
  exact all X.outer (fun _ hb => hb) I.ok.funs
theorem Inv.stack (I : Inv X pins σ H s) : s.heap.FunFrames X.base X.stack := by
  rcases I.ok.stk with e | ⟨e, hf⟩
  · rw [e]; exact I.funs
  · rw [e]
    obtain ⟨m, hn, _⟩ := I.loc
    refine .cons (by rw [I.ok.kind]; decide) hf hn ?_ I.funs
    exact Heap.get?_none_of_le (Nat.le_trans I.ok.bsz I.ok.above)
theorem Inv.stkSub (I : Inv X pins σ H s) : ∀ b ∈ frs X.stack, b ∈ X.env.locals :: X.fs := fun b hb => by
  rcases I.ok.stk with e | ⟨e, hf⟩
  · rw [e] at hb; exact List.mem_cons_of_mem _ hb
  · rw [e] at hb
    unfold frs at hb
    rw [List.filterMap_cons, hf] at hb
    exact hb
theorem Inv.stkFree (I : Inv X pins σ H s) : ∀ b ∈ frs X.stack, H b = none := fun b hb => by
  rcases List.mem_cons.mp (I.stkSub b hb) with e | hb
  · rw [e]; exact I.free
  · obtain ⟨_, o, ho, _⟩ := I.ok.funs.mem hb
    exact I.base.free b o ho (I.ok.frf b hb) fun z => I.ok.exfs b z hb
theorem Inv.step {g' : Array GenState} {t' : Nat} {d' : Drawn} {ch : List Addr} (I : Inv X pins σ H s)
    (hch : ∀ b ∈ ch, (b ∈ X.ex ∨ X.s₀.heap.objs.size ≤ b) ∧ b ≠ X.env.locals ∧ (∀ x c, X.env.cells.lookup x = some c → c ≠ b) ∧ ∀ p ∈ X.pn ++ pins, p.1 ≠ b)
    (keep : ∀ b o, b ≠ X.env.locals → b ∉ X.fs → b ∉ ch → s.heap.get? b = some o → H b = none → h'.get? b = some o)
    (slot : ∀ b o, b ≠ X.env.locals → b ∈ X.fs → b ∉ ch → s.heap.get? b = some o → H b = none → ∃ sl, h'.get? b = some { o with slots := sl }) (free : ∀ b o, b ∉ ch → s.heap.get? b = some o → H b = none → H' b = none)
    (there : ∀ b o, b ∉ ch → s.heap.get? b = some o → ∃ o', h'.get? b = some o')
    (tups : ∀ b xs, H b = some (.tup xs) → H' b = some (.tup xs)) (frzs : ∀ b o u, H b = some (.frz o u) → H' b = some (.frz o u)) (tbls : ∀ b ps, H b = some (.tbl ps) → ∃ more, H' b = some (.tbl (ps ++ more)))
    (ns : ∀ m, s.heap.Ns X.env.locals m → h'.Ns X.env.locals m) (hok : HOk X.prog X.w H' h') (hg : AllBare g') :
    Inv X pins σ H' { s with heap := h', gens := g', drawn := d', toks := t' } := by
  have neL : ∀ b o, X.s₀.heap.get? b = some o → b ≠ X.env.locals := fun b o e => Nat.ne_of_lt (Nat.lt_of_lt_of_le (Heap.lt_size e) I.ok.above)
  have neC : ∀ b o, X.s₀.heap.get? b = some o → b ∉ X.ex → b ∉ ch := fun b o e hx hb => by
    rcases (hch b hb).1 with z | z
    · exact hx z
    · exact absurd (Nat.lt_of_lt_of_le (Heap.lt_size e) z) (Nat.lt_irrefl _)
  have cellK : ∀ x c, X.env.cells.lookup x = some c → ∀ v, s.heap.IsCell c v → h'.IsCell c v := fun x c e v ⟨o, ho, hd⟩ => by
    have nch : c ∉ ch := fun z => (hch c z).2.2.1 x c e rfl
    by_cases hc : c ∈ X.fs
    · obtain ⟨sl, q⟩ := slot c o (I.cne x c e) hc nch ho (I.freeC x c e)
      exact ⟨_, q, hd⟩
    · exact ⟨o, keep c o (I.cne x c e) hc nch ho (I.freeC x c e), hd⟩
  refine ⟨I.ok, I.os, hg, ⟨fun b o e n hb hx => ?_, fun b o e n hb hx => ?_, fun b o e n hx => ?_, fun b o e hx => ?_, fun b xs e => tups b xs (I.base.tups b xs e), fun b o xs e => frzs b o xs (I.base.frzs b o xs e), fun b ps e => ?_⟩, ?_, fun x c e => ?_, ?_, fun x c e => ?_, fun p hp => ?_, hok, I.len⟩
  · exact keep b o (neL b o e) hb (neC b o e hx) (I.base.keep b o e n hb hx) (I.base.free b o e n hx)
  · obtain ⟨sl, e1⟩ := I.base.slot b o e n hb hx
    obtain ⟨sl', e2⟩ := slot b _ (neL b o e) hb (neC b o e hx) e1 (I.base.free b o e n hx)
    exact ⟨sl', e2⟩
  · obtain ⟨o', e1⟩ := I.base.there b o e hx
    exact free b o' (neC b o e hx) e1 (I.base.free b o e n hx)
  · obtain ⟨o', e1⟩ := I.base.there b o e hx
    exact there b o' (neC b o e hx) e1
  · obtain ⟨m1, e1⟩ := I.base.tbls b ps e
    obtain ⟨m2, e2⟩ := tbls b _ e1
    exact ⟨m1 ++ m2, by rw [e2, Array.append_assoc]⟩
  · obtain ⟨m, hn, hl⟩ := I.loc
    refine ⟨m, ns m hn, fun i x v e1 e2 e3 => ?_⟩
    obtain ⟨u, r, l⟩ := hl i x v e1 e2 e3
    refine ⟨u, r, ?_⟩
    rcases l with l | ⟨k, c, e, z⟩
    · exact .inl l
    · exact .inr ⟨k, c, e, cellK x c e _ z⟩
  · obtain ⟨v, z⟩ := I.cell x c e
    exact ⟨v, cellK x c e v z⟩
  · obtain ⟨m, ⟨o, _, _, ho, _⟩, _⟩ := I.loc
    exact free _ o (fun z => (hch _ z).2.1 rfl) ho I.free
  · obtain ⟨v, o, ho, hd⟩ := I.cell x c e
    exact free c o (fun z => (hch c z).2.2.1 x c e rfl) ho (I.freeC x c e)
  · obtain ⟨e, n, ne, nf, d⟩ := I.pin p hp
    have nch : p.1 ∉ ch := fun z => (hch p.1 z).2.2.2 p hp rfl
    exact ⟨keep p.1 p.2 ne nf nch e n, free p.1 p.2 nch e n, ne, nf, d⟩
theorem Inv.un {t' : Nat} (I : Inv X pins σ H s) (u : Un X.fs [] H H' s.heap h') (hok : HOk X.prog X.w H' h') : Inv X pins σ H' { s with heap := h', toks := t' } := by
  obtain ⟨m, ⟨o, es, ep, ho, r⟩, _⟩ := id I.loc
  obtain ⟨sl, hL⟩ := u.any ho I.free (by simp)
  exact I.step (g' := s.gens) (d' := s.drawn) (ch := []) (fun _ z => nomatch z) (fun b o _ hb _ e n => u.keep b o e n hb (by simp)) (fun b o _ hb _ e n => u.slot b o e n hb (by simp)) (fun b o _ e n => u.free b o e n (by simp)) (fun b o _ e => u.there b o e (by simp)) u.tups u.frzs u.tbls (fun m' hm => by
    obtain ⟨o', es', ep', ho', r'⟩ := hm
    rw [ho] at ho'; cases ho'
    exact ⟨_, es', ep', hL, r'⟩) hok I.bare
theorem Inv.call {g' : Array GenState} {t' : Nat} {d' : Drawn} {ch : List Addr} (I : Inv X pins σ H s) (u : Un (frs X.stack) ch H H' s.heap h') (hok : HOk X.prog X.w H' h') (hg : AllBare g')
    (hch : ∀ b ∈ ch, (b ∈ X.ex ∨ X.s₀.heap.objs.size ≤ b) ∧ b ≠ X.env.locals ∧ (∀ x c, X.env.cells.lookup x = some c → c ≠ b) ∧ ∀ p ∈ X.pn ++ pins, p.1 ≠ b) :
    Inv X pins σ H' { s with heap := h', gens := g', drawn := d', toks := t' } := by
  obtain ⟨m, ⟨o, es, ep, ho, r⟩, _⟩ := id I.loc
  obtain ⟨sl, hL⟩ := u.any ho I.free fun z => (hch _ z).2.1 rfl
  exact I.step (ch := ch) hch (fun b o hL hb hc e n => u.keep b o e n (fun z => (List.mem_cons.mp (I.stkSub b z)).elim hL hb) hc) (fun b o _ _ hc e n => u.any e n hc) (fun b o hc e n => u.free b o e n hc) (fun b o hc e => u.there b o e hc) u.tups u.frzs u.tbls (fun m' hm => by
    obtain ⟨o', es', ep', ho', r'⟩ := hm
    rw [ho] at ho'; cases ho'
    exact ⟨_, es', ep', hL, r'⟩) hok hg
theorem Inv.turned {t' : Nat} {it : Addr} (I : Inv X pins σ H s) (k : ∀ b o, b ≠ it → s.heap.get? b = some o → h'.get? b = some o) (hn : H it = none) (hL : it ≠ X.env.locals)
    (h1 : it ∈ X.ex ∨ X.s₀.heap.objs.size ≤ it) (h2 : ∀ x c, X.env.cells.lookup x = some c → c ≠ it) (h3 : ∀ p ∈ X.pn ++ pins, p.1 ≠ it) : Inv X pins σ H { s with heap := h', toks := t' } := by
  have nit : ∀ b u, H b = some u → b ≠ it := fun b u e z => by rw [z, hn] at e; cases e
  refine I.step (g' := s.gens) (d' := s.drawn) (ch := [it]) (fun b hb => ?_) (fun b o _ _ hc e _ => k b o (fun z => hc (by simp [z])) e) (fun b o _ _ hc e _ => ⟨o.slots, k b o (fun z => hc (by simp [z])) e⟩) (fun _ _ _ _ n => n)
    (fun b o hc e => ⟨o, k b o (fun z => hc (by simp [z])) e⟩) (fun _ _ e => e) (fun _ _ _ e => e) (fun b ps e => ⟨#[], by rw [e]; simp⟩) (fun m hm => ?_) (fun b u e => ?_) I.bare
  · have e : b = it := by simpa using hb
    subst e
    exact ⟨h1, hL, h2, h3⟩
  · obtain ⟨o, es, ep, ho, r⟩ := hm
    exact ⟨o, es, ep, k _ o (Ne.symm hL) ho, r⟩
  · refine (I.hok b u e).stay (fun c v hc q => k c v ?_ q) (fun _ q => q) fun _ _ q => q
    rcases hc with z | z
    · rw [z]; exact nit b u e
    · exact nit c _ z
theorem Inv.tok (I : Inv X pins σ H s) (t : Nat) : Inv X pins σ H { s with toks := t } := I.un (h' := s.heap) (t' := t) Un.refl I.hok
theorem Inv.kept {t' : Nat} (I : Inv X pins σ H s) (k : ∀ b u, s.heap.get? b = some u → h'.get? b = some u) : Inv X pins σ H { s with heap := h', toks := t' } := I.un (Un.kept k) (I.hok.kept k)
theorem Inv.laid {a : Addr} {o : HO} {t' : Nat} (I : Inv X pins σ H s) (k : ∀ b u, s.heap.get? b = some u → h'.get? b = some u) (hp : s.heap.objs.size ≤ a) (new : ObjOk X.prog X.w (upd H a o) h' a o) :
    Inv X pins σ (upd H a o) { s with heap := h', toks := t' } := I.un (Un.laid k hp (I.hok.fresh hp)) (I.hok.laid k hp new)
theorem Inv.write {x e : Addr} {o : HO} {t' : Nat} (I : Inv X pins σ H s) (mu : Mut (H x)) (he : e = x ∨ H e = some (.own x)) (k : ∀ b u, b ≠ e → s.heap.get? b = some u → h'.get? b = some u) (heo : ∃ u, h'.get? e = some u)
    (new : ObjOk X.prog X.w (upd H x o) h' x o) : Inv X pins σ (upd H x o) { s with heap := h', toks := t' } := I.un (Un.write mu he k heo) (I.hok.write mu he k heo new)
theorem Inv.pins_of {pins' : List (Addr × Obj)} (I : Inv X pins σ H s) (h : ∀ p ∈ pins', s.heap.get? p.1 = some p.2 ∧ H p.1 = none ∧ p.1 ≠ X.env.locals ∧ p.1 ∉ X.fs ∧ ∀ v, p.2.data ≠ .cell v) : Inv X pins' σ H s :=
  ⟨I.ok, I.os, I.bare, I.base, I.loc, I.cell, I.free, I.freeC, fun p hp => (List.mem_append.mp hp).elim (fun z => I.pin p (List.mem_append_left _ z)) (h p), I.hok, I.len⟩
theorem nodup_ix {N : List Str} (hN : N.Nodup) {i j : Nat} {x : Str} (a : N[i]? = some x) (b : N[j]? = some x) : i = j := by
  obtain ⟨h1, e1⟩ := List.getElem?_eq_some_iff.mp a
  obtain ⟨h2, e2⟩ := List.getElem?_eq_some_iff.mp b
  exact (List.getElem_inj hN).mp (e1.trans e2.symm)
theorem store_ok2 {M : Model} {A : Around} {E : Value → Shared → Prop} {i : Nat} {x : Str} {v : V} {u : Value} {Q : Unit → Shared → Prop} (I : Inv X pins σ H s) (hN : X.N.Nodup) (hi : X.N[i]? = some x) (hx : Loc X.env.scope x) (r : RelV v u)
    (h : ∀ s', Inv X pins (σ.set i (some v)) H s' → (∃ a, Heap.SameBut a s.heap s'.heap ∧ (a = X.env.locals ∨ X.env.cells.lookup x = some a)) → Q () s') (hf : X.fn x = true ∨ X.env.scope.names.lookup x = some .local := by first | exact .inl rfl | exact .inr rfl | assumption) : wpAny M A (storeName X.env x u) Q E s := by
  obtain ⟨m, hn, hl⟩ := id I.loc
  have hcls : (X.env.scope.kind == .class || (X.env.scope.kind == .module && X.env.locals != X.env.globals)) = false := by rw [I.ok.kind]; rfl
  have hiσ : i < σ.length := by rw [I.len]; exact (List.getElem?_eq_some_iff.mp hi).1
  have cne := I.cne
  have tracked : ∀ {a : Addr} {h' : Heap}, (∃ o, s.heap.get? a = some o ∧ H a = none) → Heap.SameBut a s.heap h' → HOk X.prog X.w H h' := fun {a h'} ha hs b ob e => by
    obtain ⟨_, _, hfree⟩ := ha
    refine (I.hok b ob e).stay (fun c w' hc q => (hs.2 c ?_).trans q) (fun _ q => q) fun _ _ q => q
    rintro rfl
    rcases hc with rfl | hc
    · rw [hfree] at e; cases e
    · rw [hfree] at hc; cases hc
  rcases hx with hk | hk
  · refine wpAny_storeName_local hk hn (fun h' hn' hs => ?_) hcls
    obtain ⟨oL, _, _, hoL, _⟩ := id hn
    refine h _ ⟨I.ok, I.os, I.bare, ⟨fun b o e n hb hx => ?_, fun b o e n hb hx => ?_, I.base.free, fun b o e hx => ?_, I.base.tups, I.base.frzs, I.base.tbls⟩, ⟨_, hn', fun j y v' e1 e2 e3 => ?_⟩, fun y c e => ?_, I.free, I.freeC, fun p hp => ?_, tracked ⟨oL, hoL, I.free⟩ hs, by simpa using I.len⟩ ⟨_, hs, .inl rfl⟩
    · exact (hs.2 b (Nat.ne_of_lt (Nat.lt_of_lt_of_le (Heap.lt_size e) I.ok.above))).trans (I.base.keep b o e n hb hx)
    · obtain ⟨sl, e1⟩ := I.base.slot b o e n hb hx
      exact ⟨sl, (hs.2 b (Nat.ne_of_lt (Nat.lt_of_lt_of_le (Heap.lt_size e) I.ok.above))).trans e1⟩
    · obtain ⟨o', e1⟩ := I.base.there b o e hx
      exact ⟨o', (hs.2 b (Nat.ne_of_lt (Nat.lt_of_lt_of_le (Heap.lt_size e) I.ok.above))).trans e1⟩
    · by_cases hj : j = i
      · subst hj
        rw [hi] at e1; cases e1
        rw [List.getElem?_set_self hiσ] at e2
        cases e2
        exact ⟨u, r, .inl ⟨hk, by simp⟩⟩
      · rw [List.getElem?_set_ne (Ne.symm hj)] at e2
        obtain ⟨u', r', q⟩ := hl j y v' e1 e2 e3
        refine ⟨u', r', ?_⟩
        rcases q with ⟨k, e⟩ | ⟨k, c, e, z⟩
        · refine .inl ⟨k, ?_⟩
          have : y ≠ x := fun e => hj (nodup_ix hN e1 (e ▸ hi))
          simp [this, e]
        · exact .inr ⟨k, c, e, z.sameBut hs (cne y c e)⟩
    · obtain ⟨w', z⟩ := I.cell y c e
      exact ⟨w', z.sameBut hs (cne y c e)⟩
    · obtain ⟨e, n, ne, nf, d⟩ := I.pin p hp
      exact ⟨(hs.2 p.1 ne).trans e, n, ne, nf, d⟩
  · have hfn : X.fn x = true := by
      rcases hf with z | z
      · exact z
      · rw [z] at hk; cases hk
    obtain ⟨c, hc⟩ := I.ok.has x (.inl hk)
    obtain ⟨w', z⟩ := I.cell x c hc
    refine wpAny_storeName_cell I.ok.kind hk hc z (fun h' hc' hs => ?_)
    obtain ⟨oc, hoc, hocd⟩ := id z
    refine h { s with heap := h' } ⟨I.ok, I.os, I.bare, ⟨fun b o e n hb hx => ?_, fun b o e n hb hx => ?_, I.base.free, fun b o e hx => ?_, I.base.tups, I.base.frzs, I.base.tbls⟩, ⟨m, hn.sameBut hs (Ne.symm (cne x c hc)), fun j y v' e1 e2 e3 => ?_⟩, fun y c' e => ?_, I.free, I.freeC, fun p hp => ?_, tracked ⟨oc, hoc, I.freeC x c hc⟩ hs, by simpa using I.len⟩ ⟨c, hs, .inr hc⟩
    · exact (hs.2 b (Nat.ne_of_lt (Nat.lt_of_lt_of_le (Heap.lt_size e) (I.ok.cab x c hfn hc)))).trans (I.base.keep b o e n hb hx)
    · obtain ⟨sl, e1⟩ := I.base.slot b o e n hb hx
      exact ⟨sl, (hs.2 b (Nat.ne_of_lt (Nat.lt_of_lt_of_le (Heap.lt_size e) (I.ok.cab x c hfn hc)))).trans e1⟩
    · obtain ⟨o', e1⟩ := I.base.there b o e hx
      exact ⟨o', (hs.2 b (Nat.ne_of_lt (Nat.lt_of_lt_of_le (Heap.lt_size e) (I.ok.cab x c hfn hc)))).trans e1⟩
    · by_cases hj : j = i
      · subst hj
        rw [hi] at e1; cases e1
        rw [List.getElem?_set_self hiσ] at e2
        cases e2
        exact ⟨u, r, .inr ⟨.inl hk, c, hc, hc'⟩⟩
      · rw [List.getElem?_set_ne (Ne.symm hj)] at e2
        obtain ⟨u', r', q⟩ := hl j y v' e1 e2 e3
        refine ⟨u', r', ?_⟩
        rcases q with q | ⟨k, c', e, z'⟩
        · exact .inl q
        · refine .inr ⟨k, c', e, z'.sameBut hs ?_⟩
          rintro rfl
          exact hj (nodup_ix hN e1 (I.ok.inj _ _ _ e hc ▸ hi))
    · by_cases hcc : c' = c
      · subst hcc; exact ⟨_, hc'⟩
      · obtain ⟨w2, z2⟩ := I.cell y c' e
        exact ⟨w2, z2.sameBut hs hcc⟩
    · obtain ⟨e, n, ne, nf, d⟩ := I.pin p hp
      refine ⟨(hs.2 p.1 ?_).trans e, n, ne, nf, d⟩
      intro q
      rw [q, hoc] at e
      have q' : oc = p.2 := Option.some.inj e
      exact d w' (by rw [← q']; exact hocd)
theorem store_ok {M : Model} {A : Around} {E : Value → Shared → Prop} {i : Nat} {x : Str} {v : V} {u : Value} {Q : Unit → Shared → Prop} (I : Inv X pins σ H s) (hN : X.N.Nodup) (hi : X.N[i]? = some x) (hx : Loc X.env.scope x) (r : RelV v u)
    (h : ∀ s', Inv X pins (σ.set i (some v)) H s' → Q () s') (hf : X.fn x = true ∨ X.env.scope.names.lookup x = some .local := by first | exact .inl rfl | exact .inr rfl | assumption) : wpAny M A (storeName X.env x u) Q E s :=
  store_ok2 I hN hi hx r (fun s' I' _ => h s' I') hf
theorem Inv.call' {s' : Shared} {ch : List Addr} (I : Inv X pins σ H s) (ho : s'.os = s.os) (u : Un (frs X.stack) ch H H' s.heap s'.heap) (hok : HOk X.prog X.w H' s'.heap) (hg : AllBare s'.gens)
    (hch : ∀ b ∈ ch, (b ∈ X.ex ∨ X.s₀.heap.objs.size ≤ b) ∧ b ≠ X.env.locals ∧ (∀ x c, X.env.cells.lookup x = some c → c ≠ b) ∧ ∀ p ∈ X.pn ++ pins, p.1 ≠ b) : Inv X pins σ H' s' := by
  obtain ⟨h', g', d', t', o'⟩ := s'
  have e : o' = s.os := ho
  subst e
  exact I.call (g' := g') (t' := t') (d' := d') u hok hg hch
end
abbrev XK := Value → Option Addr → Hp → Prop
abbrev St := List (Option V)
abbrev VK := V → Hp → Prop
abbrev TE := St → Hp → VK → Prop
abbrev TT := St → Hp → (Bool → Hp → Prop) → Prop
abbrev TA := St → Hp → (List V → Hp → Prop) → Prop
structure Ends where
  nx : St → Hp → Prop
  rt : VK
  bk : St → Hp → Prop := fun _ _ => False
  ct : St → Hp → Prop := fun _ _ => False
abbrev TS := Ends → St → Hp → Prop
def EP (X : Cx) (pins : List (Addr × Obj)) (σ : St) (Q : VK) (u : Value) (s' : Shared) : Prop := ∃ v H', Inv X pins σ H' s' ∧ RelV v u ∧ Q v H'
def TP (X : Cx) (pins : List (Addr × Obj)) (σ : St) (Q : Bool → Hp → Prop) (b : Bool) (s' : Shared) : Prop := ∃ H', Inv X pins σ H' s' ∧ Q b H'
def AP (X : Cx) (pins : List (Addr × Obj)) (σ : St) (Q : List V → Hp → Prop) (us : List Value) (s' : Shared) : Prop := ∃ vs H', Inv X pins σ H' s' ∧ Vals vs us ∧ Q vs H'
def SP (X : Cx) (pins : List (Addr × Obj)) (D : Ends) (f : Flow) (s' : Shared) : Prop :=
  match f with
  | .next => ∃ σ' H', Inv X pins σ' H' s' ∧ D.nx σ' H'
  | .brk => ∃ σ' H', Inv X pins σ' H' s' ∧ D.bk σ' H'
  | .cont => ∃ σ' H', Inv X pins σ' H' s' ∧ D.ct σ' H'
  | .ret u => ∃ v σ' H', Inv X pins σ' H' s' ∧ RelV v u ∧ D.rt v H'
def PE (X : Cx) (e : Expr) (t : TE) : Prop :=
  ∀ (pins : List (Addr × Obj)) (s : Shared) (σ : St) (H : Hp) (Q : VK), Inv X pins σ H s → t σ H Q → wpAny (model X.prog X.w) X.A (eval e X.env) (EP X pins σ Q) X.xe s
def PT (X : Cx) (e : Expr) (t : TT) : Prop :=
  ∀ (pins : List (Addr × Obj)) (s : Shared) (σ : St) (H : Hp) (Q : Bool → Hp → Prop), Inv X pins σ H s → t σ H Q → wpAny (model X.prog X.w) X.A (isTrue e X.env (eval e X.env)) (TP X pins σ Q) X.xe s
def PW (X : Cx) (e : Expr) (t : TT) : Prop :=
  ∀ (whole : Sem Value) (pins : List (Addr × Obj)) (s : Shared) (σ : St) (H : Hp) (Q : Bool → Hp → Prop), Inv X pins σ H s → t σ H Q → wpAny (model X.prog X.w) X.A (isTrue e X.env whole) (TP X pins σ Q) X.xe s
theorem PW.pt {X : Cx} {e : Expr} {t : TT} (h : PW X e t) : PT X e t := h _
def PA (X : Cx) (es : List Expr) (t : TA) : Prop :=
  ∀ (pos : Pos) (pins : List (Addr × Obj)) (s : Shared) (σ : St) (H : Hp) (Q : List V → Hp → Prop), Inv X pins σ H s → t σ H Q → wpAny (model X.prog X.w) X.A (spliced (backTo pos (starEach es X.env))) (AP X pins σ Q) X.xe s
def PS (X : Cx) (st : Stmt) (t : TS) : Prop :=
  ∀ (pins : List (Addr × Obj)) (s : Shared) (σ : St) (H : Hp) (D : Ends), Inv X pins σ H s → t D σ H → wpAny (model X.prog X.w) X.A (exec st X.env) (SP X pins D) X.xe s
def PSs (X : Cx) (st : List Stmt) (t : TS) : Prop :=
  ∀ (pins : List (Addr × Obj)) (s : Shared) (σ : St) (H : Hp) (D : Ends), Inv X pins σ H s → t D σ H → wpAny (model X.prog X.w) X.A (execs st X.env) (SP X pins D) X.xe s
theorem thn {α : Type} {t : Sem α} {Q Q' : α → Shared → Prop} {M : Model} {A : Around} {E : Value → Shared → Prop} {s : Shared} (h : wpAny M A t Q E s) (hQ : ∀ a s, Q a s → Q' a s) : wpAny M A t Q' E s := wpAny_mono h hQ fun _ _ x => x
end L2
namespace L2
open PySem PySem.Spec PyProof.Rows
section
variable {X : Cx}
def tVar (i : Nat) : TE := fun σ H Q => ∃ v, σ[i]? = some (some v) ∧ Q v H
def tC (v : V) : TE := fun _ H Q => Q v H
theorem pe_var {i : Nat} {x : Str} {pos : Pos} (hN : X.N[i]? = some x) (hv : Vis X.env.scope x) (hd : (x == ("__debug__" : Str)) = false := by decide) (hcd : (x == ("__classdict__" : Str)) = false := by decide) : PE X (.Name x pos) (tVar i) := by
  intro pins s σ H Q I h
  obtain ⟨v, e, h⟩ := h
  obtain ⟨m, hn, hl⟩ := I.loc
  obtain ⟨u, r, l⟩ := hl i x v hN e hv
  have fin : EP X pins σ Q u s := ⟨v, H, I, r, h⟩
  rcases l with ⟨hk, hm⟩ | ⟨hk, c, hc, hcell⟩
  · exact wpAny_Name (wpAny_loadName_local I.ok.kind hk hn hm fin) hd
  · rcases hk with hk | hk
    · exact wpAny_Name (wpAny_loadName_cell I.ok.kind hk hc hcell fin) hd
    · exact wpAny_Name (wpAny_loadName_free I.ok.kind hk hc hcell fin hcd) hd
theorem pe_int {i j pos} : PE X (.Constant (.int i) j pos) (tC (.int i)) := fun _ _ _ H _ I h => wpAny_Constant_int ⟨.int i, H, I.tok _, ⟨_, rfl⟩, h⟩
theorem pe_bl {b j pos} : PE X (.Constant (.bool b) j pos) (tC (.bl b)) := fun _ _ _ H _ I h => Constant_bool ⟨.bl b, H, I, rfl, h⟩
theorem pe_non {j pos} : PE X (.Constant .none j pos) (tC .non) := fun _ _ _ H _ I h => Constant_none ⟨.non, H, I, rfl, h⟩
theorem pe_str {x j pos} : PE X (.Constant (.str x) j pos) (tC (.str x)) := fun _ _ _ H _ I h => Calls.Constant_str ⟨.str x, H, I.tok _, ⟨_, rfl⟩, h⟩
def Gl (X : Cx) (x : Str) : Prop := X.env.kindOf x = some .globalImplicit
theorem ld_glob {E : Value → Shared → Prop} {pins : List (Addr × Obj)} {s : Shared} {σ : St} {H : Hp} {x : Str} {u : Value} {pos : Pos} {Q : Value → Shared → Prop} (I : Inv X pins σ H s) (hg : Gl X x) (hm : X.mg x = some u) (h : Q u s)
    (hd : (x == ("__debug__" : Str)) = false := by decide) : wpAny (model X.prog X.w) X.A (eval (.Name x pos) X.env) Q E s :=
  Calls.Name_function_global I.ok.kind hg (Calls.loadGlobal_global (by rw [I.ok.glob]; exact I.mod.glob.keeps I.bk) hm h) hd
theorem ld_blt {E : Value → Shared → Prop} {pins : List (Addr × Obj)} {s : Shared} {σ : St} {H : Hp} {x : Str} {u : Value} {pos : Pos} {Q : Value → Shared → Prop} (I : Inv X pins σ H s) (hg : Gl X x) (hm : X.mg x = none) (hv : bootBuiltins x = some u) (h : Q u s)
    (hn : x ≠ "__name__" := by decide) (hd : (x == ("__debug__" : Str)) = false := by decide) : wpAny (model X.prog X.w) X.A (eval (.Name x pos) X.env) Q E s := by
  obtain ⟨mb, h1, h2⟩ := I.mod.blt
  exact Calls.Name_function_global I.ok.kind hg (Calls.loadGlobal_builtin (by rw [I.ok.glob]; exact I.mod.glob.keeps I.bk) hm (by rw [I.ok.blt]; exact h1.keeps I.bk) ((h2 x hn).trans hv) h) hd
theorem pe_glob {x : Str} {v : V} {u : Value} {pos : Pos} (hg : Gl X x) (hm : X.mg x = some u) (r : RelV v u) (hd : (x == ("__debug__" : Str)) = false := by decide) : PE X (.Name x pos) (tC v) :=
  fun _ _ _ H _ I h => ld_glob I hg hm ⟨v, H, I, r, h⟩ hd
theorem pe_bltn {x : Str} {v : V} {u : Value} {pos : Pos} (hg : Gl X x) (hm : X.mg x = none) (hv : bootBuiltins x = some u) (r : RelV v u) (hn : x ≠ "__name__" := by decide) (hd : (x == ("__debug__" : Str)) = false := by decide) : PE X (.Name x pos) (tC v) :=
  fun _ _ _ H _ I h => ld_blt I hg hm hv ⟨v, H, I, r, h⟩ hn hd
variable {a b : Expr} {ta tb : TE} {pos : Pos}
def tB (t : TE) : TT := fun σ H Q => t σ H fun x H1 => ∃ c, x = .bl c ∧ Q c H1
theorem pt_val {e : Expr} {t : TE} (h : PE X e t) (he : ∀ whole, isTrue e X.env whole = (do let v ← whole; standAt e.pos; holding [v] (truthy v)) := by intro _; rfl) : PT X e (tB t) := by
  intro pins s σ H Q I hw
  refine isTrue_plain (thn (h pins s σ H _ I hw) fun v s1 ⟨x, H1, I1, r1, q1⟩ => ?_) (he _)
  obtain ⟨d, rfl, q⟩ := q1
  cases r1
  exact wpAny_truthy_bool ⟨H1, I1, q⟩
variable {tA tB' : TT} {rest : List Expr}
def tAnd (t u : TT) : TT := fun σ H Q => t σ H fun c H1 => if c = true then u σ H1 Q else Q false H1
def tOr (t u : TT) : TT := fun σ H Q => t σ H fun c H1 => if c = true then Q true H1 else u σ H1 Q
def tNot (t : TT) : TT := fun σ H Q => t σ H fun c H1 => Q (!c) H1
theorem pw_and1 (ha : PT X a tA) : PW X (.BoolOp .And [a] pos) tA := by
  intro wh pins s σ H Q I h
  refine isTrue_and (thn (ha pins s σ H Q I h) fun c s1 e => ?_)
  cases c with
  | true => exact isTrue_and_nil e
  | false => exact e
theorem pw_or1 (ha : PT X a tA) : PW X (.BoolOp .Or [a] pos) tA := by
  intro wh pins s σ H Q I h
  refine isTrue_or (thn (ha pins s σ H Q I h) fun c s1 e => ?_)
  cases c with
  | false => exact isTrue_or_nil e
  | true => exact e
theorem pw_and (ha : PT X a tA) (hb : PW X (.BoolOp .And (b :: rest) pos) tB') : PW X (.BoolOp .And (a :: b :: rest) pos) (tAnd tA tB') := by
  intro wh pins s σ H Q I h
  refine isTrue_and (thn (ha pins s σ H _ I h) fun c s1 ⟨H1, I1, q1⟩ => ?_)
  cases c with
  | true => exact hb wh pins s1 σ H1 Q I1 q1
  | false => exact ⟨H1, I1, q1⟩
theorem pw_or (ha : PT X a tA) (hb : PW X (.BoolOp .Or (b :: rest) pos) tB') : PW X (.BoolOp .Or (a :: b :: rest) pos) (tOr tA tB') := by
  intro wh pins s σ H Q I h
  refine isTrue_or (thn (ha pins s σ H _ I h) fun c s1 ⟨H1, I1, q1⟩ => ?_)
  cases c with
  | true => exact ⟨H1, I1, q1⟩
  | false => exact hb wh pins s1 σ H1 Q I1 q1
theorem pt_not (ha : PT X a tA) : PT X (.UnaryOp .Not a pos) (tNot tA) := by
  intro pins s σ H Q I h
  exact isTrue_not (ha pins s σ H (fun c H1 => Q (!c) H1) I h)
def tAndV (ta tb : TE) : TE := fun σ H Q => ta σ H fun x H1 => ∃ c, x = .bl c ∧ if c = true then tb σ H1 Q else Q (.bl false) H1
def tNotV (ta : TE) : TE := fun σ H Q => ta σ H fun x H1 => ∃ c, x = .bl c ∧ Q (.bl (!c)) H1
theorem pe_one {op} {t : TE} (h : PE X a t) : PE X (.BoolOp op [a] pos) t := fun pins s σ H Q I hw => BoolOp_one (h pins s σ H Q I hw)
theorem pe_and (ha : PE X a ta) (hb : PE X (.BoolOp .And (b :: rest) pos) tb) : PE X (.BoolOp .And (a :: b :: rest) pos) (tAndV ta tb) := by
  intro pins s σ H Q I h
  refine BoolOp_and (thn (ha pins s σ H _ I h) fun v s1 ⟨x, H1, I1, r1, q1⟩ => ?_)
  obtain ⟨c, rfl, q1⟩ := q1
  cases r1
  refine wpAny_truthy_bool ?_
  cases c with
  | true => exact hb pins s1 σ H1 Q I1 q1
  | false => exact ⟨.bl false, H1, I1, rfl, q1⟩
theorem pe_not (ha : PE X a ta) : PE X (.UnaryOp .Not a pos) (tNotV ta) := by
  intro pins s σ H Q I h
  refine UnaryOp_ (thn (ha pins s σ H _ I h) fun v s1 ⟨x, H1, I1, r1, q1⟩ => ?_)
  obtain ⟨c, rfl, q1⟩ := q1
  cases r1
  exact not_of (wpAny_truthy_bool ⟨.bl (!c), H1, I1, rfl, q1⟩)
def tIf (t : TT) (ta tb : TE) : TE := fun σ H Q => t σ H fun c H1 => if c = true then ta σ H1 Q else tb σ H1 Q
theorem pe_ifExp {c : Expr} (hc : PT X c tA) (ha : PE X a ta) (hb : PE X b tb) : PE X (.IfExp c a b pos) (tIf tA ta tb) := by
  intro pins s σ H Q I h
  refine wpAny_IfExp (thn (hc pins s σ H _ I h) fun d s1 ⟨H1, I1, q1⟩ => ?_)
  cases d with
  | true => exact ha pins s1 σ H1 Q I1 q1
  | false => exact hb pins s1 σ H1 Q I1 q1
end
end L2
namespace L2
open PySem PySem.Spec PyProof.Rows
def SqL (K : PySem.W.Frag) (H : Hp) (a : Addr) (xs : List V) : Prop :=
  Rd H a (.lst xs) ∨
    ∃ (o : Obj) (its : Array Value) (n : Nat), K.lookup a = some o ∧ o.cls = .type "list" ∧ o.dict = none ∧ o.data = .seq its n ∧ its.size ≤ sizeLine ∧ Vals xs its.toList
def SqT (K : PySem.W.Frag) (H : Hp) (a : Addr) (xs : List V) : Prop :=
  Rd H a (.tup xs) ∨
    ∃ (o : Obj) (its : Array Value) (n : Nat), K.lookup a = some o ∧ o.cls = .type "tuple" ∧ o.data = .seq its n ∧ its.size ≤ sizeLine ∧ Vals xs its.toList
def absV : Value → Option V
  | .none => some .non
  | .bool b => some (.bl b)
  | .int i _ => some (.int i)
  | .str x _ => some (.str x)
  | .bytes b _ => some (.byt b)
  | .float b _ => some (.flt b)
  | .ref a => some (.ref a)
  | .type n => some (.ty n)
  | _ => none
theorem RelV.abs {x : V} {u : Value} (r : RelV x u) : absV u = some x := by
  cases x with
  | non => cases r; rfl
  | bl _ => cases r; rfl
  | int _ => obtain ⟨t, rfl⟩ := r; rfl
  | str _ => obtain ⟨t, rfl⟩ := r; rfl
  | byt _ => obtain ⟨t, rfl⟩ := r; rfl
  | flt _ => obtain ⟨t, rfl⟩ := r; rfl
  | ref _ => cases r; rfl
  | ty _ => cases r; rfl
theorem RelV.inj {x y : V} {u : Value} (r : RelV x u) (q : RelV y u) : x = y := Option.some.inj (r.abs.symm.trans q.abs)
theorem Vals.inj : ∀ {xs ys : List V} {us : List Value}, Vals xs us → Vals ys us → xs = ys
  | _, _, _, .nil, .nil => rfl
  | _, _, _, .cons r t, .cons r' t' => by rw [r.inj r', Vals.inj t t']
section
variable {X : Cx} {pins : List (Addr × Obj)} {σ : St} {H : Hp} {s : Shared} {a : Addr} {xs ys : List V}
theorem SqL.of {K : PySem.W.Frag} (h : H a = some (.lst xs)) : SqL K H a xs := .inl (.inl h)
theorem SqT.of {K : PySem.W.Frag} (h : H a = some (.tup xs)) : SqT K H a xs := .inl (.inl h)
theorem Inv.list (I : Inv X pins σ H s) (h : SqL X.K H a xs) : ∃ its : List Value, Vals xs its ∧ PlainL s.heap a its.toArray ∧ xs.length ≤ sizeLine := by
  rcases h with h | ⟨o, its, n, hk, hc, hd, hs, hz, r⟩
  · obtain ⟨z, its, n, r, e⟩ := h.ok I.hok
    exact ⟨its, r, ⟨_, n, e, rfl, rfl, rfl⟩, z⟩
  · refine ⟨its.toList, r, ⟨o, n, I.kIn a o hk, hc, hd, by simpa using hs⟩, ?_⟩
    have e := r.length
    simp only [Array.length_toList] at e
    omega
theorem Inv.tuple (I : Inv X pins σ H s) (h : SqT X.K H a xs) : ∃ its : List Value, Vals xs its ∧ IsTup s.heap a its.toArray ∧ xs.length ≤ sizeLine := by
  rcases h with h | ⟨o, its, n, hk, hc, hs, hz, r⟩
  · obtain ⟨z, its, r, p⟩ := h.ok I.hok
    exact ⟨its, r, p, z⟩
  · refine ⟨its.toList, r, ⟨o, I.kIn a o hk, hc, n, by simpa using hs⟩, ?_⟩
    have e := r.length
    simp only [Array.length_toList] at e
    omega
theorem Inv.list_inj (I : Inv X pins σ H s) (h : SqL X.K H a xs) (h' : SqL X.K H a ys) : xs = ys := by
  obtain ⟨its, r, ⟨o, n, e, _, _, d⟩, _⟩ := I.list h
  obtain ⟨its', r', ⟨o', n', e', _, _, d'⟩, _⟩ := I.list h'
  rw [e] at e'; cases e'
  rw [d] at d'
  injection d' with d1 _
  have : its = its' := by simpa using congrArg Array.toList d1
  subst this
  exact r.inj r'
theorem Inv.tuple_inj (I : Inv X pins σ H s) (h : SqT X.K H a xs) (h' : SqT X.K H a ys) : xs = ys := by
  obtain ⟨its, r, ⟨o, e, _, n, d⟩, _⟩ := I.tuple h
  obtain ⟨its', r', ⟨o', e', _, n', d'⟩, _⟩ := I.tuple h'
  rw [e] at e'; cases e'
  rw [d] at d'
  injection d' with d1 _
  have : its = its' := by simpa using congrArg Array.toList d1
  subst this
  exact r.inj r'
end
abbrev Cx.wish (X : Cx) (E : Value → Shared → Prop) : Cx := { X with xe := E }
abbrev Cx.nox (X : Cx) : Cx := X.wish fun _ _ => False
theorem Cx.Ok.wish {X : Cx} (ok : X.Ok) (E : Value → Shared → Prop) : (X.wish E).Ok :=
  ⟨ok.mod, ok.kind, ok.glob, ok.blt, ok.above, ok.inj, ok.has, ok.cab, ok.hd, ok.frames, ok.stk, ok.exf, ok.bs, ok.bsz, ok.noex, ok.exfs, ok.funs, ok.frf⟩
theorem Cx.Ok.unwish {X : Cx} {E : Value → Shared → Prop} (ok : (X.wish E).Ok) : X.Ok :=
  ⟨ok.mod, ok.kind, ok.glob, ok.blt, ok.above, ok.inj, ok.has, ok.cab, ok.hd, ok.frames, ok.stk, ok.exf, ok.bs, ok.bsz, ok.noex, ok.exfs, ok.funs, ok.frf⟩
section
variable {X : Cx} {pins : List (Addr × Obj)} {σ : St} {H : Hp} {s : Shared} {E : Value → Shared → Prop}
theorem Inv.wish (I : Inv X pins σ H s) (E : Value → Shared → Prop) : Inv (X.wish E) pins σ H s := ⟨I.ok.wish E, I.os, I.bare, I.base, I.loc, I.cell, I.free, I.freeC, I.pin, I.hok, I.len⟩
theorem Inv.unwish (I : Inv (X.wish E) pins σ H s) : Inv X pins σ H s := ⟨I.ok.unwish, I.os, I.bare, I.base, I.loc, I.cell, I.free, I.freeC, I.pin, I.hok, I.len⟩
theorem SP.unwish {D : Ends} {f : Flow} {s' : Shared} (h : SP (X.wish E) pins D f s') : SP X pins D f s' := by
  cases f with
  | next => obtain ⟨σ', H', I, q⟩ := h; exact ⟨σ', H', I.unwish, q⟩
  | brk => obtain ⟨σ', H', I, q⟩ := h; exact ⟨σ', H', I.unwish, q⟩
  | cont => obtain ⟨σ', H', I, q⟩ := h; exact ⟨σ', H', I.unwish, q⟩
  | ret u => obtain ⟨v, σ', H', I, r, q⟩ := h; exact ⟨v, σ', H', I.unwish, r, q⟩
theorem PSs.nox {st : List Stmt} {t : TS} (h : PSs X.nox st t) : PSs X st t := fun pins s σ H D I hw =>
  wpAny_mono (h pins s σ H D (I.wish _) hw) (fun _ _ q => q.unwish) fun _ _ z => False.elim z
end
section
variable {X : Cx} {st : Stmt} {rest : List Stmt} {t u : TS} {e : Expr} {te : TE} {pos : Pos}
def tNext : TS := fun D σ H => D.nx σ H
def tSeq (t u : TS) : TS := fun D σ H => t { D with nx := u D } σ H
theorem pss_nil : PSs X [] tNext := fun _ _ σ H _ I h => wpAny_execs_nil ⟨σ, H, I, h⟩
theorem pss_cons (h1 : PS X st t) (h2 : PSs X rest u) : PSs X (st :: rest) (tSeq t u) := by
  intro pins s σ H D I h
  refine wpAny_execs_cons (thn (h1 pins s σ H { D with nx := u D } I h) fun f s1 q => ?_)
  cases f with
  | next =>
    obtain ⟨σ', H', I', q⟩ := q
    exact h2 pins s1 σ' H' D I' q
  | ret v => exact q
  | brk => exact q
  | cont => exact q
theorem pss_one (h1 : PS X st t) : PSs X [st] t := by
  intro pins s σ H D I h
  refine wpAny_execs_cons (thn (h1 pins s σ H D I h) fun f s1 q => ?_)
  cases f with
  | next => exact wpAny_execs_nil q
  | ret v => exact q
  | brk => exact q
  | cont => exact q
theorem Inv.quiet {pins : List (Addr × Obj)} {σ : St} {H : Hp} {s : Shared} (I : Inv X pins σ H s) : interactive X.env = false := by simp [interactive, I.ok.kind]
def tDrop (te : TE) : TS := fun D σ H => te σ H fun _ H1 => D.nx σ H1
theorem ps_expr (he : PE X e te) (hs : swapsWith e none pos.line X.env = pure false := by rfl) : PS X (.Expr e pos) (tDrop te) := by
  intro pins s σ H D I h
  exact wpAny_Expr_any (thn (he pins s σ H _ I h) fun v s1 ⟨x, H1, I1, r1, q1⟩ => ⟨σ, H1, I1, q1⟩) I.quiet hs
def tRet (te : TE) : TS := fun D σ H => te σ H D.rt
theorem ps_ret (he : PE X e te) : PS X (.Return (some e) pos) (tRet te) := by
  intro pins s σ H D I h
  exact wpAny_Return_some (thn (he pins s σ H _ I h) fun v s1 ⟨x, H1, I1, r1, q1⟩ => ⟨x, σ, H1, I1, r1, q1⟩)
def tIfS (c : TT) (t u : TS) : TS := fun D σ H => c σ H fun b H1 => if b = true then t D σ H1 else u D σ H1
theorem ps_if {c : Expr} {a b : List Stmt} {tc : TT} (hc : PT X c tc) (ha : PSs X a t) (hb : PSs X b u) : PS X (.If c a b pos) (tIfS tc t u) := by
  intro pins s σ H D I h
  refine wpAny_If (thn (hc pins s σ H _ I h) fun d s1 ⟨H1, I1, q1⟩ => ?_)
  cases d with
  | true => exact ha pins s1 σ H1 D I1 q1
  | false => exact hb pins s1 σ H1 D I1 q1
def tNever : TS := fun _ _ _ => False
theorem ps_never : PS X st tNever := fun _ _ _ _ _ _ h => h.elim
theorem pss_never {sts : List Stmt} : PSs X sts tNever := fun _ _ _ _ _ _ h => h.elim
end
abbrev TG := V → St → Hp → (St → Hp → Prop) → Prop
abbrev TGs := List V → St → Hp → (St → Hp → Prop) → Prop
def PG (X : Cx) (target : Expr) (t : TG) : Prop :=
  ∀ (pins : List (Addr × Obj)) (s : Shared) (σ : St) (H : Hp) (v : V) (u : Value) (Q : St → Hp → Prop), Inv X pins σ H s → RelV v u → t v σ H Q →
    wpAny (model X.prog X.w) X.A (assign target X.env u) (fun _ s' => ∃ σ' H', Inv X pins σ' H' s' ∧ Q σ' H') X.xe s
def PGs (X : Cx) (ts : List Expr) (t : TGs) : Prop :=
  ∀ (pins : List (Addr × Obj)) (s : Shared) (σ : St) (H : Hp) (vs : List V) (us : List Value) (Q : St → Hp → Prop), Inv X pins σ H s → Vals vs us → t vs σ H Q →
    wpAny (model X.prog X.w) X.A (assignInOrder ((assignEach ts X.env).map (·.2)) us) (fun _ s' => ∃ σ' H', Inv X pins σ' H' s' ∧ Q σ' H') X.xe s
abbrev TSet := V → V → V → Hp → (Hp → Prop) → Prop
def PSet (X : Cx) (t : TSet) : Prop :=
  ∀ (pins : List (Addr × Obj)) (s : Shared) (σ : St) (H : Hp) (o i v : V) (ov iv u : Value) (Q : Hp → Prop), Inv X pins σ H s → RelV o ov → RelV i iv → RelV v u → t o i v H Q →
    wpAny (model X.prog X.w) X.A (setItem ov iv u) (fun _ s' => ∃ H', Inv X pins σ H' s' ∧ Q H') X.xe s
section
variable {X : Cx} {pos : Pos}
def gName (i : Nat) : TG := fun v σ H Q => Q (σ.set i (some v)) H
theorem pg_name {i : Nat} {x : Str} (hN : X.N.Nodup) (hi : X.N[i]? = some x) (hx : Loc X.env.scope x) (hf : X.fn x = true ∨ X.env.scope.names.lookup x = some .local := by first | exact .inl rfl | exact .inr rfl | assumption) : PG X (.Name x pos) (gName i) := by
  intro pins s σ H v u Q I r h
  exact wpAny_assign_Name (store_ok I hN hi hx r (fun s' I' => ⟨_, H, I', h⟩) hf)
def gNil : TGs := fun vs σ H Q => vs = [] ∧ Q σ H
def gCons (t : TG) (u : TGs) : TGs := fun vs σ H Q => ∃ v r, vs = v :: r ∧ t v σ H fun σ' H' => u r σ' H' Q
theorem pgs_nil : PGs X [] gNil := by
  intro pins s σ H vs us Q I r h
  obtain ⟨e, h⟩ := h
  subst e
  cases r
  exact assignInOrder_nil ⟨σ, H, I, h⟩
theorem pgs_cons {e : Expr} {es : List Expr} {t : TG} {u : TGs} (h1 : PG X e t) (h2 : PGs X es u)
    (hs : (assignEach (e :: es) X.env).map (·.2) = assign e X.env :: (assignEach es X.env).map (·.2) := by rfl) : PGs X (e :: es) (gCons t u) := by
  intro pins s σ H vs us Q I r h
  obtain ⟨v, vr, e1, h⟩ := h
  subst e1
  cases r with
  | cons r rr =>
    rw [hs]
    refine assignInOrder_cons (thn (h1 pins s σ H _ _ _ I r h) fun _ s1 ⟨σ1, H1, I1, q1⟩ => ?_)
    exact h2 pins s1 σ1 H1 _ _ Q I1 rr q1
def gTup (K : PySem.W.Frag) (n : Nat) (t : TGs) : TG := fun v σ H Q => ∃ a xs, v = .ref a ∧ SqT K H a xs ∧ xs.length = n ∧ t xs σ H Q
theorem pg_tup {es : List Expr} {k : Nat} {t : TGs} {n : Nat} (hc : X.calm = true) (h : PGs X es t)
    (hn : (assignEach es X.env).length = n := by rfl) (hst : (assignEach es X.env).findIdx? (·.1) = none := by rfl) : PG X (.Tuple es k pos) (gTup X.K n t) := by
  intro pins s σ H v u Q I r hw
  obtain ⟨a, xs, e1, hq, hl, hw⟩ := hw
  subst e1
  cases r
  obtain ⟨its, rv, ht, hz⟩ := I.tuple hq
  refine assign_Tuple_tuple (I.ok.hd hc) ht (by simp [hn, ← hl, rv.length]) hst fun h' hx => ?_
  have I1 : Inv X pins σ H { s with heap := h' } := I.kept (t' := s.toks) fun b o e => hx b o (Nat.ne_of_lt (Heap.lt_size e)) e
  exact h pins _ σ H xs _ Q I1 (by simpa using rv) hw
def gSub (to ti : TE) (t : TSet) : TG := fun v σ H Q => to σ H fun o H1 => ti σ H1 fun i H2 => t o i v H2 fun H3 => Q σ H3
theorem pg_sub {o i : Expr} {to ti : TE} {t : TSet} (ho : PE X o to) (hi : PE X i ti) (hs : PSet X t)
    (ha : ∀ v, assign (.Subscript o i pos) X.env v = (do
      let ov ← holding [v] (eval o X.env)
      let iv ← holding [v, ov] (eval i X.env)
      standAt pos
      holding [v, ov, iv] (setItem ov iv v)
      release [v, ov, iv] []) := by intro _; rfl) : PG X (.Subscript o i pos) (gSub to ti t) := by
  intro pins s σ H v u Q I r h
  rw [ha]
  refine wpAny_bind (wpAny_holding (thn (ho pins s σ H _ I h) fun ov s1 ⟨x, H1, I1, r1, q1⟩ => ?_))
  refine wpAny_bind (wpAny_holding (thn (hi pins s1 σ H1 _ I1 q1) fun iv s2 ⟨y, H2, I2, r2, q2⟩ => ?_))
  refine wpAny_bind (wpAny_standAt (wpAny_bind (wpAny_holding (thn (hs pins s2 σ H2 x y v ov iv u _ I2 r1 r2 r q2) fun _ s3 ⟨H3, I3, q3⟩ => ?_))))
  exact wpAny_release ⟨σ, H3, I3, q3⟩
def tAsg (te : TE) (g : TG) : TS := fun D σ H => te σ H fun x H1 => g x σ H1 D.nx
theorem ps_asg {tg e : Expr} {te : TE} {g : TG} (he : PE X e te) (hg : PG X tg g) (hs : swapsWithSole [tg] e pos.line X.env = pure false := by rfl) (hw : swappedStores [tg] e X.env = pure none := by rfl)
    (h1 : (assignEach [tg] X.env).map (·.2) = [assign tg X.env] := by rfl) : PS X (.Assign [tg] e pos) (tAsg te g) := by
  intro pins s σ H D I h
  refine wpAny_Assign_stores (thn (he pins s σ H _ I h) fun v s1 ⟨x, H1, I1, r1, q1⟩ => ?_) hs hw
  rw [h1]
  exact thn (hg pins s1 σ H1 x v _ I1 r1 q1) fun _ s2 q => q
theorem ps_set {i : Nat} {x : Str} {e : Expr} {te : TE} {pos' : Pos} (hN : X.N.Nodup) (hi : X.N[i]? = some x) (hx : Loc X.env.scope x) (he : PE X e te) (hs : swapsWith e (some (.Name x pos')) pos.line X.env = pure false := by rfl) (hf : X.fn x = true ∨ X.env.scope.names.lookup x = some .local := by first | exact .inl rfl | exact .inr rfl | assumption) :
    PS X (.Assign [.Name x pos'] e pos) (tAsg te (gName i)) := by
  intro pins s σ H D I h
  refine wpAny_Assign_Name (thn (he pins s σ H _ I h) fun v s1 ⟨y, H1, I1, r1, q1⟩ => ?_) hs
  exact store_ok I1 hN hi hx r1 (fun s2 I2 => ⟨_, H1, I2, q1⟩) hf
def tPar (i j : Nat) (ta : TA) : TS := fun D σ H => ta σ H fun vs H1 => ∃ v w, vs = [v, w] ∧ D.nx ((σ.set i (some v)).set j (some w)) H1
theorem ps_par {i j : Nat} {x y : Str} {a b : Expr} {ta : TA} {px py pt : Pos} {kt k2 pt2} (hc : X.calm = true) (hN : X.N.Nodup) (hi : X.N[i]? = some x) (hj : X.N[j]? = some y) (hij : i ≠ j)
    (hx : X.env.scope.names.lookup x = some .local) (hy : X.env.scope.names.lookup y = some .local) (ha : PA X [a, b] ta)
    (hw : swappedStores [.Tuple [.Name x px, .Name y py] kt pt] (.Tuple [a, b] k2 pt2) X.env = pure (some [x, y]))
    (hs : swapsWithSole [.Tuple [.Name x px, .Name y py] kt pt] (.Tuple [a, b] k2 pt2) pos.line X.env = pure false := by rfl) :
    PS X (.Assign [.Tuple [.Name x px, .Name y py] kt pt] (.Tuple [a, b] k2 pt2) pos) (tPar i j ta) := by
  intro pins s σ H D I h
  rw [exec_Assign_arm]
  refine wpAny_bind (wpAny_standAt ?_)
  rw [hs]
  refine wpAny_bind (wpAny_pure ?_)
  rw [if_neg (by decide)]
  refine wpAny_bind (Tuple_ (thn (ha _ pins s σ H _ I h) fun us s1 ⟨vs, H1, I1, r1, q1⟩ => ?_))
  obtain ⟨v, w, e1, q1⟩ := q1
  subst e1
  obtain ⟨u1, u2, rfl, rv, rw'⟩ : ∃ u1 u2, us = [u1, u2] ∧ RelV v u1 ∧ RelV w u2 := by
    cases r1 with
    | cons p q =>
      cases q with
      | cons p' q' =>
        cases q'
        exact ⟨_, _, rfl, p, p'⟩
  refine wpAny_newObj_type ?_ (by show 2 ≤ sizeLine; decide)
  have I2 : Inv X pins σ H1 { s1 with heap := s1.heap.push { cls := .type "tuple", data := .seq [u1, u2].toArray } } := I1.kept (t' := s1.toks) fun b o e => Heap.get?_push_of_some _ e
  rw [hw]
  refine wpAny_bind (wpAny_pure ?_)
  show wpAny (model X.prog X.w) X.A (do rule "assign.swapped-stores"; let items ← unpackItems (.ref s1.heap.objs.size) 2 none; assignInOrder [fun v => bindName X.env y v, fun v => bindName X.env x v] items.reverse; pure Flow.next) _ _ _
  refine wpAny_bind (wpAny_rule (wpAny_bind (unpackItems_tuple (items := #[u1, u2]) (I.ok.hd hc) (IsTup.new s1.heap _) fun h' hx' => ?_)))
  have I3 := I2.kept (h' := h') (t' := s1.toks) fun b o e => hx' b o (Nat.ne_of_lt (Heap.lt_size e)) e
  show wpAny _ _ (assignInOrder [fun v => bindName X.env y v, fun v => bindName X.env x v] [u2, u1] >>= fun _ => pure Flow.next) _ _ _
  refine wpAny_bind (assignInOrder_cons (wpAny_bindName (store_ok I3 hN hj (.inl hy) rw' (fun s2 I4 => ?_) (.inr hy))))
  refine assignInOrder_cons (wpAny_bindName (store_ok I4 hN hi (.inl hx) rv (fun s3 I5 => assignInOrder_nil (wpAny_pure ?_)) (.inr hx)))
  rw [List.set_comm _ _ (Ne.symm hij)] at I5
  exact ⟨_, H1, I5, q1⟩
end
section
variable {X : Cx} {pos : Pos}
def tWhile (c : TT) (tb : TS) : TS := fun D σ H => ∃ W : Nat → St → Hp → Prop, (∃ m, W m σ H) ∧ ∀ m σ H, W m σ H →
  c σ H fun b H1 => if b = true then ∃ N : St → Hp → Prop, (∀ σ' H', N σ' H' → ∃ m', m' < m ∧ W m' σ' H') ∧ tb { D with nx := N, ct := N, bk := D.nx } σ H1 else D.nx σ H1
theorem ps_while {c : Expr} {body : List Stmt} {tc : TT} {tb : TS} (hp : PassesOwn (model X.prog X.w) X.A X.env X.xe) (hc : PT X c tc) (hb : PSs X body tb) : PS X (.While c body [] pos) (tWhile tc tb) := by
  intro pins s σ H D I h
  obtain ⟨W, ⟨m0, w0⟩, turn⟩ := h
  refine wpAny_While (codeAny_whileLoop (fun n s' => ∃ σ' H', Inv X pins σ' H' s' ∧ W n σ' H') ?_ m0 ⟨σ, H, I, w0⟩)
  rintro n s1 ⟨σ1, H1, I1, w1⟩
  refine wpAny_passesOwn hp (thn (hc pins s1 σ1 H1 _ I1 (turn n σ1 H1 w1)) fun b s2 ⟨H2, I2, q2⟩ => ?_)
  cases b with
  | true =>
    obtain ⟨N, hN, q2⟩ := q2
    rw [if_pos rfl]
    refine wpAny_passesOwn hp (thn (hb pins s2 σ1 H2 _ I2 q2) fun f s3 q3 => ?_)
    cases f with
    | next =>
      obtain ⟨σ3, H3, I3, n3⟩ := q3
      obtain ⟨m', hm, w3⟩ := hN σ3 H3 n3
      exact ⟨m', hm, σ3, H3, I3, w3⟩
    | cont =>
      obtain ⟨σ3, H3, I3, n3⟩ := q3
      obtain ⟨m', hm, w3⟩ := hN σ3 H3 n3
      exact ⟨m', hm, σ3, H3, I3, w3⟩
    | brk => exact q3
    | ret v => exact q3
  | false =>
    rw [if_neg Bool.false_ne_true]
    exact wpAny_execs_nil ⟨σ1, H2, I2, q2⟩
end
structure It where
  go : Nat → Hp → Prop
  yld : Nat → Hp → V → Hp → Prop
  stop : Nat → Hp → Prop
def FpOk (X : Cx) (pins : List (Addr × Obj)) (H : Hp) (b : Addr) : Prop :=
  H b = none ∧ b ≠ X.env.locals ∧ b ∉ X.fs ∧ (b ∈ X.ex ∨ X.s₀.heap.objs.size ≤ b) ∧ (∀ x c, X.env.cells.lookup x = some c → c ≠ b) ∧ ∀ p ∈ X.pn ++ pins, p.1 ≠ b
theorem Inv.fpOk {X : Cx} {pins : List (Addr × Obj)} {σ : St} {H H' : Hp} {s : Shared} {b : Addr} (I : Inv X pins σ H s) (hb : s.heap.objs.size ≤ b) (hn : H' b = none) : FpOk X pins H' b := by
  refine ⟨hn, Nat.ne_of_gt (Nat.lt_of_lt_of_le I.lt hb), I.nofs hb, .inr (Nat.le_trans I.sz hb), fun x c e z => ?_, fun p hp z => ?_⟩
  · obtain ⟨v, q⟩ := I.cell x c e
    exact absurd (Nat.lt_of_lt_of_le q.lt (by rw [z]; exact hb)) (Nat.lt_irrefl _)
  · exact absurd (Nat.lt_of_lt_of_le (Heap.lt_size (I.pin p hp).1) (by rw [z]; exact hb)) (Nat.lt_irrefl _)
structure Turn (P : Program) (w : World) (K : PySem.W.Frag) (tg : Expr) (J : It) (fp : List Addr) (it : Addr) (tn : Nat → Heap → Prop) : Prop where
  mem : it ∈ fp
  obj : ∀ i h, tn i h → ∀ b ∈ fp, ∃ o, h.get? b = some o ∧ ∀ v, o.data ≠ .cell v
  keep : ∀ i h h', tn i h → (∀ b ∈ fp, ∀ o, h.get? b = some o → h'.get? b = some o) → tn i h'
  item : ∀ (X : Cx), X.prog = P → X.w = w → X.K = K → X.calm = true → ∀ (i : Nat) (pins : List (Addr × Obj)) (s : Shared) (σ : St) (H : Hp) (E : Value → Shared → Prop), Inv X pins σ H s → (∀ b ∈ fp, FpOk X pins H b) → tn i s.heap → J.go i H →
    wpAny (model P w) X.A (pyNext (.ref it)) (fun r s1 => ∃ u, r = some u ∧
      wpAny (model P w) X.A (letOwnedTupleGo tg (.ref it) u) (fun _ s2 => ∃ x H', Inv X pins σ H' s2 ∧ RelV x u ∧ J.yld i H x H' ∧ tn (i + 1) s2.heap ∧ ∀ b ∈ fp, H' b = none) E s1) E s
  done : ∀ (X : Cx), X.prog = P → X.w = w → X.K = K → X.calm = true → ∀ (i : Nat) (pins : List (Addr × Obj)) (s : Shared) (σ : St) (H : Hp) (E : Value → Shared → Prop), Inv X pins σ H s → (∀ b ∈ fp, FpOk X pins H b) → tn i s.heap → J.stop i H →
    wpAny (model P w) X.A (pyNext (.ref it)) (fun r s1 => r = none ∧ Inv X pins σ H s1) E s
  self : ∀ (A : Around) (i : Nat) (s : Shared) (Q : Value → Shared → Prop) (E : Value → Shared → Prop), tn i s.heap → Q (.ref it) s → wpAny (model P w) A (pyIter (.ref it)) Q E s
abbrev TI := St → Hp → (It → Hp → Prop) → Prop
def PIE (X : Cx) (pins : List (Addr × Obj)) (σ : St) (tg : Expr) (R : It → Hp → Prop) (itv : Value) (s2 : Shared) : Prop :=
  ∃ (it : Addr) (fp : List Addr) (tn : Nat → Heap → Prop) (J : It) (H' : Hp), itv = .ref it ∧ Inv X pins σ H' s2 ∧ Turn X.prog X.w X.K tg J fp it tn ∧ tn 0 s2.heap ∧ (∀ b ∈ fp, FpOk X pins H' b) ∧ R J H'
def PI (X : Cx) (tg iter : Expr) (wi : TI) : Prop :=
  ∀ (pins : List (Addr × Obj)) (s : Shared) (σ : St) (H : Hp) (R : It → Hp → Prop), Inv X pins σ H s → wi σ H R →
    wpAny (model X.prog X.w) X.A (eval iter X.env) (fun v s1 => wpAny (model X.prog X.w) X.A (pyIter v) (PIE X pins σ tg R) X.xe s1) X.xe s
theorem go_of {M : Model} {A : Around} {E : Value → Shared → Prop} {s : Shared} {tg : Expr} {it : Addr} {u : Value} {o : Obj} {n : String} {vs : Array Value} {Q : Unit → Shared → Prop} (ho : s.heap.get? it = some o) (hc : o.cls = .type n) (hd : o.data = .fields vs)
    (hn : ["enumerate", "zip", "dict_itemiterator", "dict_reverseitemiterator", "odict_iterator", "itertools.zip_longest", "itertools.pairwise"].contains n = false) (hQ : Q () s) : wpAny M A (letOwnedTupleGo tg (.ref it) u) Q E s := by
  unfold letOwnedTupleGo
  cases tg <;> first
    | exact wpAny_pure hQ
    | (cases u <;> first
        | exact wpAny_pure hQ
        | (refine wpAny_bind (wpAny_load ho ?_)
           rw [hc, hd]
           show wpAny M A (if (["enumerate", "zip", "dict_itemiterator", "dict_reverseitemiterator", "odict_iterator", "itertools.zip_longest", "itertools.pairwise"].contains n && vs[0]? == some (rawInt _)) = true then _ else _) Q E s
           rw [if_neg (by intro h; rw [hn, Bool.false_and] at h; cases h)]
           exact wpAny_pure hQ))
def Itl (K : PySem.W.Frag) (a : Addr) : It :=
  ⟨fun i H => ∃ xs x, SqL K H a xs ∧ xs[i]? = some x, fun i H x H' => H' = H ∧ ∀ xs, SqL K H a xs → xs[i]? = some x, fun i H => ∃ xs, SqL K H a xs ∧ xs.length ≤ i⟩
def Itt (K : PySem.W.Frag) (a : Addr) : It :=
  ⟨fun i H => ∃ xs x, SqT K H a xs ∧ xs[i]? = some x, fun i H x H' => H' = H ∧ ∀ xs, SqT K H a xs → xs[i]? = some x, fun i H => ∃ xs, SqT K H a xs ∧ xs.length ≤ i⟩
def Itr (lo : Int) (n : Nat) : It := ⟨fun i _ => i < n, fun i H x H' => H' = H ∧ x = .int (lo + i), fun i _ => n ≤ i⟩
theorem turn_list {P : Program} {w : World} {K : PySem.W.Frag} {tg : Expr} (a it : Addr) : Turn P w K tg (Itl K a) [it] it (fun i h => h.IsListIter it a i) where
  mem := by simp
  obj := fun i h st b hb => by
    have e : b = it := by simpa using hb
    subst e
    obtain ⟨o, e, c, d⟩ := st
    exact ⟨o, e, fun v z => by rw [d] at z; cases z⟩
  keep := fun i h h' st k => st.at fun o e => k it (by simp) o e
  item := by
    intro X hP hw hK hc i pins s σ H E I hf st hg
    subst hP hw hK
    obtain ⟨xs, x, hq, hx⟩ := hg
    obtain ⟨its, rv, p, hz⟩ := I.list hq
    obtain ⟨u, hu, ru⟩ := rv.get hx
    obtain ⟨f0, f1, f2, f3, f4, f5⟩ := hf it (by simp)
    refine wpAny_pyNext_list_item st p.isList (x := u) (by simpa using hu) fun h' st' sb => ?_
    have I1 : Inv X pins σ H { s with heap := h' } := I.turned (t' := s.toks) (fun b o hb e => (sb.2 b hb).trans e) f0 f1 f3 f4 f5
    obtain ⟨o, e, c, d⟩ := id st'
    exact ⟨u, rfl, go_of (s := { s with heap := h' }) e c d (by decide) ⟨x, H, I1, ru, ⟨rfl, fun ys hy => by rw [I.list_inj hy hq]; exact hx⟩, st', fun b hb => (hf b hb).1⟩⟩
  done := by
    intro X hP hw hK hc i pins s σ H E I hf st hg
    subst hP hw hK
    obtain ⟨xs, hq, hx⟩ := hg
    obtain ⟨its, rv, p, hz⟩ := I.list hq
    obtain ⟨f0, f1, f2, f3, f4, f5⟩ := hf it (by simp)
    have hl := rv.length
    exact wpAny_pyNext_list_end (I.ok.hd hc) st p.isList (by simp; omega) fun h' eb => ⟨rfl, I.turned (t' := s.toks) (fun b o hb e => eb b o hb e) f0 f1 f3 f4 f5⟩
  self := fun _ _ _ _ _ st h => wpAny_pyIter_listiter st h
theorem turn_tuple {P : Program} {w : World} {K : PySem.W.Frag} {tg : Expr} (a it : Addr) : Turn P w K tg (Itt K a) [it] it (fun i h => h.IsTupleIter it a i) where
  mem := by simp
  obj := fun i h st b hb => by
    have e : b = it := by simpa using hb
    subst e
    obtain ⟨o, e, c, d⟩ := st
    exact ⟨o, e, fun v z => by rw [d] at z; cases z⟩
  keep := fun i h h' st k => st.at fun o e => k it (by simp) o e
  item := by
    intro X hP hw hK hc i pins s σ H E I hf st hg
    subst hP hw hK
    obtain ⟨xs, x, hq, hx⟩ := hg
    obtain ⟨its, rv, p, hz⟩ := I.tuple hq
    obtain ⟨u, hu, ru⟩ := rv.get hx
    obtain ⟨f0, f1, f2, f3, f4, f5⟩ := hf it (by simp)
    refine wpAny_pyNext_tuple_item st (show s.heap.IsTuple a its.toArray from p) (x := u) (by simpa using hu) fun h' st' sb => ?_
    have I1 : Inv X pins σ H { s with heap := h' } := I.turned (t' := s.toks) (fun b o hb e => (sb.2 b hb).trans e) f0 f1 f3 f4 f5
    obtain ⟨o, e, c, d⟩ := id st'
    exact ⟨u, rfl, go_of (s := { s with heap := h' }) e c d (by decide) ⟨x, H, I1, ru, ⟨rfl, fun ys hy => by rw [I.tuple_inj hy hq]; exact hx⟩, st', fun b hb => (hf b hb).1⟩⟩
  done := by
    intro X hP hw hK hc i pins s σ H E I hf st hg
    subst hP hw hK
    obtain ⟨xs, hq, hx⟩ := hg
    obtain ⟨its, rv, p, hz⟩ := I.tuple hq
    obtain ⟨f0, f1, f2, f3, f4, f5⟩ := hf it (by simp)
    have hl := rv.length
    exact wpAny_pyNext_tuple_end (I.ok.hd hc) st (show s.heap.IsTuple a its.toArray from p) (by simp; omega) fun h' eb => ⟨rfl, I.turned (t' := s.toks) (fun b o hb e => eb b o hb e) f0 f1 f3 f4 f5⟩
  self := fun _ _ _ _ _ st h => wpAny_pyIter_tupleiter st h
theorem turn_range {P : Program} {w : World} {K : PySem.W.Frag} {tg : Expr} (it : Addr) (lo : Int) (n : Nat) : Turn P w K tg (Itr lo n) [it] it (fun i h => IsRangeIter h it (lo + (i : Nat) * 1) ((n : Int) - (i : Nat)) 1) where
  mem := by simp
  obj := fun i h st b hb => by
    have e : b = it := by simpa using hb
    subst e
    exact ⟨_, st, fun v z => by
      have z' : Data.fields _ = Data.cell v := z
      cases z'⟩
  keep := fun i h h' st k => k it (by simp) _ st
  item := by
    intro X hP hw hK hc i pins s σ H E I hf st hg
    subst hP hw hK
    obtain ⟨f0, f1, f2, f3, f4, f5⟩ := hf it (by simp)
    have W := Walks.range (prog := X.prog) (w := X.w) (I.ok.hd hc) it lo 1 n
    refine W.item i s _ _ hg st fun v h' tk hv st' kk => ?_
    obtain ⟨t, rfl⟩ := hv
    have I1 : Inv X pins σ H { s with heap := h', toks := tk } := I.turned (fun b o hb e => kk b o (by simpa using hb) e) f0 f1 f3 f4 f5
    refine ⟨_, rfl, go_of (s := { s with heap := h', toks := tk }) (n := "range_iterator") st' rfl rfl (by decide) ⟨.int (lo + i), H, I1, ⟨t, ?_⟩, ⟨rfl, rfl⟩, st', fun b hb => (hf b hb).1⟩⟩
    rw [Int.mul_one]
  done := by
    intro X hP hw hK hc i pins s σ H E I hf st hg
    subst hP hw hK
    obtain ⟨f0, f1, f2, f3, f4, f5⟩ := hf it (by simp)
    exact wpAny_pyNext_range_end (I.ok.hd hc) st (by have : n ≤ i := hg; omega) fun h' eb => ⟨rfl, I.turned (t' := s.toks) (fun b o hb e => eb b o hb e) f0 f1 f3 f4 f5⟩
  self := fun _ _ _ _ _ st h => wpAny_pyIter_rangeiter st h
end L2
namespace L2
open PySem PySem.Spec PyProof.Rows
section
variable {X : Cx} {tg : Expr}
def iList (K : PySem.W.Frag) (tl : TE) : TI := fun σ H R => tl σ H fun x H1 => ∃ a, x = .ref a ∧ (∃ xs, SqL K H1 a xs) ∧ R (Itl K a) H1
def iTup (K : PySem.W.Frag) (tl : TE) : TI := fun σ H R => tl σ H fun x H1 => ∃ a, x = .ref a ∧ (∃ xs, SqT K H1 a xs) ∧ R (Itt K a) H1
theorem pi_list {l : Expr} {tl : TE} (hl : PE X l tl) : PI X tg l (iList X.K tl) := by
  intro pins s σ H R I h
  refine thn (hl pins s σ H _ I h) fun v s1 ⟨x, H1, I1, r1, q1⟩ => ?_
  obtain ⟨a, e, ⟨xs, hq⟩, q⟩ := q1
  subst e
  cases r1
  obtain ⟨its, rv, p, hz⟩ := I1.list hq
  refine wpAny_pyIter_list p.isList ?_
  refine ⟨s1.heap.objs.size, [s1.heap.objs.size], _, _, H1, rfl, I1.kept (t' := s1.toks) fun b o e => Heap.get?_push_of_some _ e, turn_list a _, ⟨_, Heap.get?_push_size _ rfl, rfl, rfl⟩, fun b hb => ?_, q⟩
  have e : b = s1.heap.objs.size := by simpa using hb
  subst e
  exact I1.fpOk (Nat.le_refl _) (I1.hok.fresh (Nat.le_refl _))
theorem pi_tup {l : Expr} {tl : TE} (hl : PE X l tl) : PI X tg l (iTup X.K tl) := by
  intro pins s σ H R I h
  refine thn (hl pins s σ H _ I h) fun v s1 ⟨x, H1, I1, r1, q1⟩ => ?_
  obtain ⟨a, e, ⟨xs, hq⟩, q⟩ := q1
  subst e
  cases r1
  obtain ⟨its, rv, p, hz⟩ := I1.tuple hq
  refine wpAny_pyIter_tuple (show s1.heap.IsTuple a its.toArray from p) ?_
  refine ⟨s1.heap.objs.size, [s1.heap.objs.size], _, _, H1, rfl, I1.kept (t' := s1.toks) fun b o e => Heap.get?_push_of_some _ e, turn_tuple a _, ⟨_, Heap.get?_push_size _ rfl, rfl, rfl⟩, fun b hb => ?_, q⟩
  have e : b = s1.heap.objs.size := by simpa using hb
  subst e
  exact I1.fpOk (Nat.le_refl _) (I1.hok.fresh (Nat.le_refl _))
theorem range_it {pins : List (Addr × Obj)} {σ : St} {H : Hp} {s : Shared} {R : It → Hp → Prop} {E : Value → Shared → Prop} {lo hi : Int} {t u v : Tok} {tk : Nat} (I : Inv X pins σ H s) (h1 : -(2 ^ 62) ≤ lo) (h2 : lo < 2 ^ 62) (h3 : -(2 ^ 62) ≤ hi) (h4 : hi < 2 ^ 62)
    (q : R (Itr lo (hi - lo).toNat) H) : wpAny (model X.prog X.w) X.A (pyIter (.ref s.heap.objs.size)) (PIE X pins σ tg R) E { s with heap := s.heap.push { cls := .type "range", data := .fields #[.int lo t, .int hi u, .int 1 v] }, toks := tk } := by
  refine wpAny_pyIter_range (IsRange.new ..) (small_one h1 h2 h3 h4) ?_
  have I1 : Inv X pins σ H { s with heap := s.heap.push { cls := .type "range", data := .fields #[.int lo t, .int hi u, .int 1 v] }, toks := tk } := I.kept fun b o e => Heap.get?_push_of_some _ e
  refine ⟨(s.heap.push { cls := .type "range", data := .fields #[.int lo t, .int hi u, .int 1 v] }).objs.size, [(s.heap.push { cls := .type "range", data := .fields #[.int lo t, .int hi u, .int 1 v] }).objs.size], _, _, H, rfl,
    I1.kept (t' := tk) fun b o e => Heap.get?_push_of_some _ e, turn_range _ lo (hi - lo).toNat, ?_, fun b hb => ?_, q⟩
  · have e1 : lo + ((0 : Nat) : Int) * 1 = lo := by simp
    have e2 : (((hi - lo).toNat : Nat) : Int) - ((0 : Nat) : Int) = Builtin.Range.rangeSize lo hi 1 := by rw [rangeSize_one]; split <;> omega
    show IsRangeIter _ _ (lo + ((0 : Nat) : Int) * 1) ((((hi - lo).toNat : Nat) : Int) - ((0 : Nat) : Int)) 1
    rw [e1, e2]
    exact Heap.get?_push_size _ rfl
  · have e : b = (s.heap.push { cls := .type "range", data := .fields #[.int lo t, .int hi u, .int 1 v] }).objs.size := by simpa using hb
    subst e
    exact I1.fpOk (Nat.le_refl _) (I1.hok.fresh (Nat.le_refl _))
def iRng1 (ta : TA) : TI := fun σ H R => ta σ H fun vs H1 => ∃ j : Int, vs = [.int j] ∧ -(2 ^ 62) ≤ j ∧ j < 2 ^ 62 ∧ R (Itr 0 j.toNat) H1
theorem pi_range1 {a : Expr} {ta : TA} {p pos : Pos} (hg : Gl X "range") (hm : X.mg "range" = none) (ha : PA X [a] ta) (hs : starEach [a] X.env = [(false, eval a X.env)] := by rfl) : PI X tg (.Call (.Name "range" p) [a] [] pos) (iRng1 ta) := by
  intro pins s σ H R I h
  refine Call_ (ld_blt I hg hm boot_range (PyProof.Rows.callWith_type1 (thn (ha pos pins s σ H _ I h) fun us s1 ⟨vs, H1, I1, r1, q1⟩ => ?_) hs rfl))
  obtain ⟨j, e, q1, q2, q⟩ := q1
  subst e
  cases r1 with
  | cons r rr =>
    cases rr
    obtain ⟨t, rfl⟩ := r
    exact call_range_1 (range_it I1 (by omega) (by omega) q1 q2 (by simpa using q))
def tFor (wi : TI) (g : TG) (tb : TS) : TS := fun D σ H => wi σ H fun J H1 => ∃ W : Nat → Nat → St → Hp → Prop, (∃ m, W 0 m σ H1) ∧ ∀ i m σ H, W i m σ H →
  (J.stop i H ∧ D.nx σ H) ∨ (J.go i H ∧ ∃ N : St → Hp → Prop, (∀ σ' H', N σ' H' → ∃ m', m' < m ∧ W (i + 1) m' σ' H') ∧ ∀ x H', J.yld i H x H' → g x σ H' fun σ2 H2 => tb { D with nx := N, ct := N, bk := D.nx } σ2 H2)
def pinsAt (fp : List Addr) (h : Heap) : List (Addr × Obj) := fp.filterMap fun b => (h.get? b).map fun o => (b, o)
theorem mem_pinsAt {fp : List Addr} {h : Heap} {b : Addr} {o : Obj} (hb : b ∈ fp) (e : h.get? b = some o) : (b, o) ∈ pinsAt fp h := List.mem_filterMap.mpr ⟨b, hb, by rw [e]; rfl⟩
theorem of_pinsAt {fp : List Addr} {h : Heap} {p : Addr × Obj} (hp : p ∈ pinsAt fp h) : p.1 ∈ fp ∧ h.get? p.1 = some p.2 := by
  obtain ⟨b, hb, e⟩ := List.mem_filterMap.mp hp
  cases q : h.get? b with
  | none => rw [q] at e; cases e
  | some o =>
    rw [q] at e
    have e' : (b, o) = p := Option.some.inj e
    subst e'
    exact ⟨hb, q⟩
theorem Inv.pinned {pins : List (Addr × Obj)} {σ : St} {H : Hp} {s : Shared} {fp : List Addr} (I : Inv X pins σ H s) (hf : ∀ b ∈ fp, FpOk X pins H b) (ho : ∀ b ∈ fp, ∃ o, s.heap.get? b = some o ∧ ∀ v, o.data ≠ .cell v) : Inv X (pins ++ pinsAt fp s.heap) σ H s :=
  I.pins_of fun p hp => (List.mem_append.mp hp).elim (fun z => I.pin p (List.mem_append_right _ z)) fun z => by
    obtain ⟨hb, e⟩ := of_pinsAt z
    obtain ⟨f0, f1, f2, _⟩ := hf p.1 hb
    obtain ⟨o, e', d⟩ := ho p.1 hb
    rw [e] at e'; cases e'
    exact ⟨e, f0, f1, f2, d⟩
theorem Inv.unpinned {pins pl : List (Addr × Obj)} {σ : St} {H : Hp} {s : Shared} (I : Inv X (pins ++ pl) σ H s) : Inv X pins σ H s := I.pins_of fun p hp => I.pin p (List.mem_append_right _ (List.mem_append_left _ hp))
theorem ps_for {iter : Expr} {body : List Stmt} {wi : TI} {g : TG} {tb : TS} {pos : Pos} (hp : PassesOwn (model X.prog X.w) X.A X.env X.xe) (hc : X.calm = true) (hi : PI X tg iter wi) (hg : PG X tg g) (hb : PSs X body tb)
    (hs : ∀ x, foldedSetIterable iter X.env x = pure x := by intro _; rfl) : PS X (.For tg iter body [] pos) (tFor wi g tb) := by
  intro pins s σ H D I h
  refine wpAny_For (thn (hi pins s σ H _ I h) fun v s1 h1 => thn h1 fun itv s2 h2 => ?_) hs
  obtain ⟨it, fp, tn, J, H2, e, I2, T, st2, f2, W, ⟨m0, w0⟩, turn⟩ := h2
  subst e
  -- what stays true of the iterator's objects through the loop
  have stat : ∀ {H' : Hp}, (∀ b ∈ fp, H' b = none) → ∀ b ∈ fp, FpOk X pins H' b := fun hn b hb => ⟨hn b hb, (f2 b hb).2⟩
  refine codeAny_forLoop_any (fun n s' => ∃ i σ' H', Inv X pins σ' H' s' ∧ tn i s'.heap ∧ (∀ b ∈ fp, H' b = none) ∧ W i n σ' H') ?_ m0 ⟨0, σ, H2, I2, st2, fun b hb => (f2 b hb).1, w0⟩
  rintro n s3 ⟨i, σ3, H3, I3, st3, fr3, w3⟩
  rcases turn i n σ3 H3 w3 with ⟨stop, qn⟩ | ⟨go, N, hN, step⟩
  · refine wpAny_passesOwn hp (thn (T.done X rfl rfl rfl hc i pins s3 σ3 H3 X.xe I3 (stat fr3) st3 stop) fun r s4 ⟨hr, I4⟩ => ?_)
    subst hr
    exact wpAny_execs_nil ⟨σ3, H3, I4, qn⟩
  · refine wpAny_passesOwn hp (thn (T.item X rfl rfl rfl hc i pins s3 σ3 H3 X.xe I3 (stat fr3) st3 go) fun r s4 ⟨u, hr, h4⟩ => ?_)
    subst hr
    refine wpAny_passesOwn hp (thn h4 fun _ s5 ⟨x, H5, I5, r5, y5, st5, fr5⟩ => ?_)
    have I5' := I5.pinned (stat fr5) (T.obj _ _ st5)
    refine wpAny_passesOwn hp (thn (hg _ s5 σ3 H5 x u _ I5' r5 (step x H5 y5)) fun _ s6 ⟨σ6, H6, I6, q6⟩ => ?_)
    refine wpAny_passesOwn hp (thn (hb _ s6 σ6 H6 _ I6 q6) fun f s7 q7 => ?_)
    have again : ∀ {σ7 : St} {H7 : Hp}, Inv X (pins ++ pinsAt fp s5.heap) σ7 H7 s7 → N σ7 H7 → ∃ m, m < n ∧ ∃ i σ' H', Inv X pins σ' H' s7 ∧ tn i s7.heap ∧ (∀ b ∈ fp, H' b = none) ∧ W i m σ' H' := fun {σ7 H7} I7 n7 => by
      obtain ⟨m', hm, w7⟩ := hN σ7 H7 n7
      refine ⟨m', hm, i + 1, σ7, H7, I7.unpinned, T.keep _ _ _ st5 fun b hb o e => (I7.pin (b, o) (List.mem_append_right _ (List.mem_append_right _ (mem_pinsAt hb e)))).1, fun b hb => ?_, w7⟩
      obtain ⟨o, e, d⟩ := T.obj _ _ st5 b hb
      exact (I7.pin (b, o) (List.mem_append_right _ (List.mem_append_right _ (mem_pinsAt hb e)))).2.1
    cases f with
    | next => obtain ⟨σ7, H7, I7, n7⟩ := q7; exact again I7 n7
    | cont => obtain ⟨σ7, H7, I7, n7⟩ := q7; exact again I7 n7
    | brk => obtain ⟨σ7, H7, I7, q7⟩ := q7; exact ⟨σ7, H7, I7.unpinned, q7⟩
    | ret v => obtain ⟨x7, σ7, H7, I7, r7, q7⟩ := q7; exact ⟨x7, σ7, H7, I7.unpinned, r7, q7⟩
end
theorem for_list {K : PySem.W.Frag} {a : Addr} {xs : List V} {g : TG} {tb : TS} {D : Ends} {σ : St} {H : Hp} (Pv : Nat → St → Hp → Prop) (h0 : Pv 0 σ H) (hl : ∀ i σ H, i ≤ xs.length → Pv i σ H → SqL K H a xs)
    (hs : ∀ i x σ H, xs[i]? = some x → Pv i σ H → g x σ H fun σ2 H2 => tb { D with nx := Pv (i + 1), ct := Pv (i + 1), bk := D.nx } σ2 H2) (hd : ∀ σ H, Pv xs.length σ H → D.nx σ H) :
    ∃ W : Nat → Nat → St → Hp → Prop, (∃ m, W 0 m σ H) ∧ ∀ i m σ H, W i m σ H →
      ((Itl K a).stop i H ∧ D.nx σ H) ∨ ((Itl K a).go i H ∧ ∃ N : St → Hp → Prop, (∀ σ' H', N σ' H' → ∃ m', m' < m ∧ W (i + 1) m' σ' H') ∧ ∀ x H', (Itl K a).yld i H x H' → g x σ H' fun σ2 H2 => tb { D with nx := N, ct := N, bk := D.nx } σ2 H2) := by
  refine ⟨fun i m σ H => m = xs.length - i ∧ i ≤ xs.length ∧ Pv i σ H, ⟨xs.length, by simp, Nat.zero_le _, h0⟩, ?_⟩
  rintro i m σ H ⟨rfl, hi, p⟩
  have q := hl i σ H hi p
  by_cases hlt : i < xs.length
  · refine .inr ⟨⟨xs, xs[i], q, by simp [hlt]⟩, Pv (i + 1), fun σ' H' p' => ⟨xs.length - (i + 1), by omega, rfl, hlt, p'⟩, fun x H' y => ?_⟩
    obtain ⟨e, y⟩ := y
    subst e
    exact hs i x σ _ (y xs q) p
  · have e : i = xs.length := by omega
    subst e
    exact .inl ⟨⟨xs, q, Nat.le_refl _⟩, hd σ H p⟩
theorem for_range {lo : Int} {n : Nat} {g : TG} {tb : TS} {D : Ends} {σ : St} {H : Hp} (Pv : Nat → St → Hp → Prop) (h0 : Pv 0 σ H)
    (hs : ∀ i σ H, i < n → Pv i σ H → g (.int (lo + i)) σ H fun σ2 H2 => tb { D with nx := Pv (i + 1), ct := Pv (i + 1), bk := D.nx } σ2 H2) (hd : ∀ σ H, Pv n σ H → D.nx σ H) :
    ∃ W : Nat → Nat → St → Hp → Prop, (∃ m, W 0 m σ H) ∧ ∀ i m σ H, W i m σ H →
      ((Itr lo n).stop i H ∧ D.nx σ H) ∨ ((Itr lo n).go i H ∧ ∃ N : St → Hp → Prop, (∀ σ' H', N σ' H' → ∃ m', m' < m ∧ W (i + 1) m' σ' H') ∧ ∀ x H', (Itr lo n).yld i H x H' → g x σ H' fun σ2 H2 => tb { D with nx := N, ct := N, bk := D.nx } σ2 H2) := by
  refine ⟨fun i m σ H => m = n - i ∧ i ≤ n ∧ Pv i σ H, ⟨n, by simp, Nat.zero_le _, h0⟩, ?_⟩
  rintro i m σ H ⟨rfl, hi, p⟩
  by_cases hlt : i < n
  · refine .inr ⟨hlt, Pv (i + 1), fun σ' H' p' => ⟨n - (i + 1), by omega, rfl, hlt, p'⟩, fun x H' y => ?_⟩
    obtain ⟨e, y⟩ := y
    subst e y
    exact hs i σ _ hlt p
  · have e : i = n := by omega
    subst e
    exact .inl ⟨Nat.le_refl _, hd σ H p⟩
end L2
namespace L2
open PySem PySem.Spec PyProof.Rows
abbrev R2 := V → V → Hp → VK → Prop
def OpR (X : Cx) (f : Value → Value → Sem Value) (r : R2) : Prop :=
  ∀ (pins : List (Addr × Obj)) (s : Shared) (σ : St) (H : Hp) (x y : V) (v u : Value) (Q : VK), Inv X pins σ H s → RelV x v → RelV y u → r x y H Q →
    wpAny (model X.prog X.w) X.A (f v u) (EP X pins σ Q) X.xe s
def UnR (X : Cx) (f : Value → Sem Value) (r : V → Hp → VK → Prop) : Prop :=
  ∀ (pins : List (Addr × Obj)) (s : Shared) (σ : St) (H : Hp) (x : V) (v : Value) (Q : VK), Inv X pins σ H s → RelV x v → r x H Q →
    wpAny (model X.prog X.w) X.A (f v) (EP X pins σ Q) X.xe s
def CallR (X : Cx) (f : Value) (r : List V → Hp → VK → Prop) : Prop :=
  ∀ (pins : List (Addr × Obj)) (s : Shared) (σ : St) (H : Hp) (xs : List V) (us : List Value) (Q : VK), Inv X pins σ H s → Vals xs us → r xs H Q →
    wpAny (model X.prog X.w) X.A (call f us) (EP X pins σ Q) X.xe s
def tOp (r : R2) (ta tb : TE) : TE := fun σ H Q => ta σ H fun x H1 => tb σ H1 fun y H2 => r x y H2 Q
def tUn (r : V → Hp → VK → Prop) (ta : TE) : TE := fun σ H Q => ta σ H fun x H1 => r x H1 Q
def rI (C : Int → Int → Prop) (g : Int → Int → V) : R2 := fun x y H Q => ∃ i j, x = .int i ∧ y = .int j ∧ C i j ∧ Q (g i j) H
def rI0 (g : Int → Int → V) : R2 := fun x y H Q => ∃ i j, x = .int i ∧ y = .int j ∧ Q (g i j) H
def rU (g : Int → V) : V → Hp → VK → Prop := fun x H Q => ∃ i, x = .int i ∧ Q (g i) H
section
variable {X : Cx} {a b c : Expr} {ta tb tc : TE} {pos : Pos}
theorem binT (ha : PE X a ta) (hb : PE X b tb) {pins : List (Addr × Obj)} {s : Shared} {σ : St} {H : Hp} {R : V → V → Hp → Prop} (I : Inv X pins σ H s)
    (h : ta σ H fun x H1 => tb σ H1 fun y H2 => R x y H2) {Q : Value → Shared → Prop} {f : Value → Value → Sem Value}
    (hf : ∀ v u s2 x y H2, Inv X pins σ H2 s2 → RelV x v → RelV y u → R x y H2 → wpAny (model X.prog X.w) X.A (f v u) Q X.xe s2) :
    wpAny (model X.prog X.w) X.A (eval a X.env) (fun v s₁ => wpAny (model X.prog X.w) X.A (eval b X.env) (fun u s₂ => wpAny (model X.prog X.w) X.A (f v u) Q X.xe s₂) X.xe s₁) X.xe s := by
  refine thn (ha pins s σ H _ I h) fun v s1 ⟨x, H1, I1, r1, q1⟩ => ?_
  refine thn (hb pins s1 σ H1 _ I1 q1) fun u s2 ⟨y, H2, I2, r2, q2⟩ => ?_
  exact hf v u s2 x y H2 I2 r1 r2 q2
theorem pe_op {op : Operator} {r : R2} (ho : OpR X (binaryOp op) r) (ha : PE X a ta) (hb : PE X b tb) : PE X (.BinOp a op b pos) (tOp r ta tb) := by
  intro pins s σ H Q I h
  exact wpAny_BinOp (binT ha hb I h fun v u s2 x y H2 I2 rx ry q => ho pins s2 σ H2 x y v u Q I2 rx ry q)
theorem pe_un {op : UnaryOp} {r : V → Hp → VK → Prop} (ho : UnR X (unaryOp op) r) (ha : PE X a ta) : PE X (.UnaryOp op a pos) (tUn r ta) := by
  intro pins s σ H Q I h
  exact UnaryOp_ (thn (ha pins s σ H _ I h) fun v s1 ⟨x, H1, I1, r1, q1⟩ => ho pins s1 σ H1 x v Q I1 r1 q1)
theorem opI {f : Value → Value → Sem Value} {C : Int → Int → Prop} {g : Int → Int → Int}
    (rule : ∀ (i j : Int) (t u : Tok) (s : Shared) (Q : Value → Shared → Prop) (E : Value → Shared → Prop), C i j → Q (.int (g i j) s.toks) { s with toks := s.toks + 1 } → wpAny (model X.prog X.w) X.A (f (.int i t) (.int j u)) Q E s) :
    OpR X f (rI C fun i j => .int (g i j)) := by
  intro pins s σ H x y v u Q I rx ry h
  obtain ⟨i, j, rfl, rfl, hc, q⟩ := h
  obtain ⟨t, rfl⟩ := rx
  obtain ⟨t', rfl⟩ := ry
  exact rule i j t t' s _ _ hc ⟨.int (g i j), H, I.tok _, ⟨_, rfl⟩, q⟩
theorem opI0 {f : Value → Value → Sem Value} {g : Int → Int → Int}
    (rule : ∀ (i j : Int) (t u : Tok) (s : Shared) (Q : Value → Shared → Prop) (E : Value → Shared → Prop), Q (.int (g i j) s.toks) { s with toks := s.toks + 1 } → wpAny (model X.prog X.w) X.A (f (.int i t) (.int j u)) Q E s) :
    OpR X f (rI0 fun i j => .int (g i j)) := by
  intro pins s σ H x y v u Q I rx ry h
  obtain ⟨i, j, rfl, rfl, q⟩ := h
  obtain ⟨t, rfl⟩ := rx
  obtain ⟨t', rfl⟩ := ry
  exact rule i j t t' s _ _ ⟨.int (g i j), H, I.tok _, ⟨_, rfl⟩, q⟩
theorem opB0 {f : Value → Value → Sem Value} {g : Int → Int → Bool}
    (rule : ∀ (i j : Int) (t u : Tok) (s : Shared) (Q : Value → Shared → Prop) (E : Value → Shared → Prop), Q (.bool (g i j)) s → wpAny (model X.prog X.w) X.A (f (.int i t) (.int j u)) Q E s) :
    OpR X f (rI0 fun i j => .bl (g i j)) := by
  intro pins s σ H x y v u Q I rx ry h
  obtain ⟨i, j, rfl, rfl, q⟩ := h
  obtain ⟨t, rfl⟩ := rx
  obtain ⟨t', rfl⟩ := ry
  exact rule i j t t' s _ _ ⟨.bl (g i j), H, I, rfl, q⟩
def CDiv (i j : Int) : Prop := 0 < j ∧ j < 1073741824
def CPow (i j : Int) : Prop := 0 ≤ j ∧ j ≤ 1000000 ∧ i.natAbs < 2 ^ 64
def CMul (i j : Int) : Prop := (-(2 ^ 64) < i ∧ i < 2 ^ 64) ∨ (-(2 ^ 64) < j ∧ j < 2 ^ 64)
theorem CMul.ok {i j : Int} (h : CMul i j) : IntMulOk i j := by
  rcases h with ⟨h1, h2⟩ | ⟨h1, h2⟩
  · exact .of_left (intBits_le_64 h1 h2)
  · exact .of_right (intBits_le_64 h1 h2)
theorem op_add : OpR X (binaryOp .Add) (rI0 fun i j => .int (i + j)) := opI0 fun _ _ _ _ _ _ _ q => add_int q
theorem op_sub : OpR X (binaryOp .Sub) (rI0 fun i j => .int (i - j)) := opI0 fun _ _ _ _ _ _ _ q => sub_int q
theorem op_mul : OpR X (binaryOp .Mult) (rI CMul fun i j => .int (i * j)) := opI fun _ _ _ _ _ _ _ hc q => mul_int q hc.ok
theorem op_fdiv : OpR X (binaryOp .FloorDiv) (rI CDiv fun i j => .int (i / j)) := opI fun i j _ _ _ _ _ hc q => by
  have h1 : (0 : Int) < j := hc.1
  have h2 : j < 1073741824 := hc.2
  exact floordiv_int (by omega) (by rw [Int.fdiv_eq_ediv_of_nonneg i (by omega)]; exact q) (.inl (PyProof.noPylong_small (by omega)))
theorem op_mod : OpR X (binaryOp .Mod) (rI (fun _ j => 0 < j) fun i j => .int (i % j)) := opI fun i j _ _ _ _ _ hc q => by
  have h1 : (0 : Int) < j := hc
  exact mod_int' (by omega) (by rw [Int.fmod_eq_emod_of_nonneg i (by omega)]; exact q)
theorem op_pow : OpR X (binaryOp .Pow) (rI CPow fun i j => .int (i ^ j.toNat)) := opI fun _ _ _ _ _ _ _ hc q => pow_int_small hc.1 hc.2.1 hc.2.2 q
theorem unI {f : Value → Sem Value} {g : Int → Int}
    (rule : ∀ (i : Int) (t : Tok) (s : Shared) (Q : Value → Shared → Prop) (E : Value → Shared → Prop), Q (.int (g i) s.toks) { s with toks := s.toks + 1 } → wpAny (model X.prog X.w) X.A (f (.int i t)) Q E s) :
    UnR X f (rU fun i => .int (g i)) := by
  intro pins s σ H x v Q I rx h
  obtain ⟨i, rfl, q⟩ := h
  obtain ⟨t, rfl⟩ := rx
  exact rule i t s _ _ ⟨.int (g i), H, I.tok _, ⟨_, rfl⟩, q⟩
theorem un_neg : UnR X (unaryOp .USub) (rU fun i => .int (-i)) := unI fun _ _ _ _ _ q => neg_int q
end
def scal : V → V → Bool
  | .non, .non => true | .non, .int _ => true | .int _, .non => true | .non, .bl _ => true | .bl _, .non => true | .non, .str _ => true | .str _, .non => true
  | .int _, .int _ => true | .bl _, .bl _ => true | .str _, .str _ => true | .byt _, .byt _ => true
  | .int _, .str _ => true | .str _, .int _ => true | .bl _, .str _ => true | .str _, .bl _ => true
  | _, _ => false
def rEq : R2 := fun x y H Q => scal x y = true ∧ Q (.bl (decide (x = y))) H
def rNe : R2 := fun x y H Q => scal x y = true ∧ Q (.bl (!decide (x = y))) H
theorem dec_int {i j : Int} : decide (V.int i = V.int j) = (i == j) := by
  rw [Bool.eq_iff_iff]
  simp
theorem dec_bl {i j : Bool} : decide (V.bl i = V.bl j) = (i == j) := by
  rw [Bool.eq_iff_iff]
  simp
theorem dec_str {i j : Str} : decide (V.str i = V.str j) = (i == j) := by
  rw [Bool.eq_iff_iff]
  simp
theorem dec_byt {i j : Array UInt8} : decide (V.byt i = V.byt j) = (i.toList == j.toList) := by
  rw [Bool.eq_iff_iff]
  cases i
  cases j
  simp
section
variable {X : Cx} {a b c : Expr} {ta tb tc : TE} {pos : Pos}
theorem fin_bl {pins : List (Addr × Obj)} {σ : St} {H : Hp} {s : Shared} {Q : VK} {k k' : Bool} (I : Inv X pins σ H s) (q : Q (.bl k) H) (e : k = k') : EP X pins σ Q (.bool k') s := by
  subst e
  exact ⟨.bl k, H, I, rfl, q⟩
theorem op_eq : OpR X (compareOp .Eq) rEq := by
  intro pins s σ H x y v u Q I rx ry h
  obtain ⟨hs, q⟩ := h
  cases x with
  | non =>
    cases rx
    cases y with
    | non => cases ry; exact PySem.EqNone.eq_none_none (fin_bl I q (by simp))
    | bl j => cases ry; exact PySem.EqNone.eq_none_bool (fin_bl I q (by simp))
    | int j => obtain ⟨t', rfl⟩ := ry; exact PySem.EqNone.eq_none_int (fin_bl I q (by simp))
    | str j => obtain ⟨t', rfl⟩ := ry; exact PySem.EqNone.eq_none_str (fin_bl I q (by simp))
    | _ => exact absurd (show false = true from hs) Bool.false_ne_true
  | bl i =>
    cases rx
    cases y with
    | non => cases ry; exact PySem.EqNone.eq_bool_none (fin_bl I q (by simp))
    | bl j => cases ry; exact eq_bool (fin_bl I q dec_bl)
    | str j => obtain ⟨t', rfl⟩ := ry; exact PySem.EqMixed.eq_bool_str (fin_bl I q (by simp))
    | _ => exact absurd (show false = true from hs) Bool.false_ne_true
  | int i =>
    obtain ⟨t, rfl⟩ := rx
    cases y with
    | non => cases ry; exact PySem.EqNone.eq_int_none (fin_bl I q (by simp))
    | int j => obtain ⟨t', rfl⟩ := ry; exact eq_int (fin_bl I q dec_int)
    | str j => obtain ⟨t', rfl⟩ := ry; exact PySem.EqMixed.eq_int_str (fin_bl I q (by simp))
    | _ => exact absurd (show false = true from hs) Bool.false_ne_true
  | str i =>
    obtain ⟨t, rfl⟩ := rx
    cases y with
    | non => cases ry; exact PySem.EqNone.eq_str_none (fin_bl I q (by simp))
    | bl j => cases ry; exact PySem.EqMixed.eq_str_bool (fin_bl I q (by simp))
    | int j => obtain ⟨t', rfl⟩ := ry; exact PySem.EqMixed.eq_str_int (fin_bl I q (by simp))
    | str j => obtain ⟨t', rfl⟩ := ry; exact eq_str (fin_bl I q dec_str)
    | _ => exact absurd (show false = true from hs) Bool.false_ne_true
  | byt i =>
    obtain ⟨t, rfl⟩ := rx
    cases y with
    | byt j => obtain ⟨t', rfl⟩ := ry; exact PySem.W.eq_bytes (fin_bl I q dec_byt)
    | _ => exact absurd (show false = true from hs) Bool.false_ne_true
  | _ => cases y <;> exact absurd (show false = true from hs) Bool.false_ne_true
theorem op_ne : OpR X (compareOp .NotEq) rNe := by
  intro pins s σ H x y v u Q I rx ry h
  obtain ⟨hs, q⟩ := h
  cases x with
  | non =>
    cases rx
    cases y with
    | non => cases ry; exact PySem.EqNone.ne_none_none (fin_bl I q (by simp))
    | bl j => cases ry; exact PySem.EqNone.ne_none_bool (fin_bl I q (by simp))
    | int j => obtain ⟨t', rfl⟩ := ry; exact PySem.EqNone.ne_none_int (fin_bl I q (by simp))
    | str j => obtain ⟨t', rfl⟩ := ry; exact PySem.EqNone.ne_none_str (fin_bl I q (by simp))
    | _ => exact absurd (show false = true from hs) Bool.false_ne_true
  | bl i =>
    cases rx
    cases y with
    | non => cases ry; exact PySem.EqNone.ne_bool_none (fin_bl I q (by simp))
    | bl j => cases ry; exact ne_bool (fin_bl I q (congrArg not dec_bl))
    | str j => obtain ⟨t', rfl⟩ := ry; exact PySem.EqMixed.ne_bool_str (fin_bl I q (by simp))
    | _ => exact absurd (show false = true from hs) Bool.false_ne_true
  | int i =>
    obtain ⟨t, rfl⟩ := rx
    cases y with
    | non => cases ry; exact PySem.EqNone.ne_int_none (fin_bl I q (by simp))
    | int j => obtain ⟨t', rfl⟩ := ry; exact ne_int (fin_bl I q (congrArg not dec_int))
    | str j => obtain ⟨t', rfl⟩ := ry; exact PySem.EqMixed.ne_int_str (fin_bl I q (by simp))
    | _ => exact absurd (show false = true from hs) Bool.false_ne_true
  | str i =>
    obtain ⟨t, rfl⟩ := rx
    cases y with
    | non => cases ry; exact PySem.EqNone.ne_str_none (fin_bl I q (by simp))
    | bl j => cases ry; exact PySem.EqMixed.ne_str_bool (fin_bl I q (by simp))
    | int j => obtain ⟨t', rfl⟩ := ry; exact PySem.EqMixed.ne_str_int (fin_bl I q (by simp))
    | str j => obtain ⟨t', rfl⟩ := ry; exact ne_str (fin_bl I q (congrArg not dec_str))
    | _ => exact absurd (show false = true from hs) Bool.false_ne_true
  | byt i =>
    obtain ⟨t, rfl⟩ := rx
    cases y with
    | byt j => obtain ⟨t', rfl⟩ := ry; exact PySem.W.ne_bytes (fin_bl I q (congrArg not dec_byt))
    | _ => exact absurd (show false = true from hs) Bool.false_ne_true
  | _ => cases y <;> exact absurd (show false = true from hs) Bool.false_ne_true
theorem op_lt : OpR X (compareOp .Lt) (rI0 fun i j => .bl (decide (i < j))) := opB0 fun _ _ _ _ _ _ _ q => lt_int q
theorem op_gt : OpR X (compareOp .Gt) (rI0 fun i j => .bl (decide (j < i))) := opB0 fun _ _ _ _ _ _ _ q => gt_int q
theorem op_ge : OpR X (compareOp .GtE) (rI0 fun i j => .bl (decide (j ≤ i))) := opB0 fun _ _ _ _ _ _ _ q => ge_int q
theorem op_isN : OpR X (compareOp .Is) (fun x y H Q => y = .non ∧ Q (.bl (decide (x = .non))) H) := by
  intro pins s σ H x y v u Q I rx ry h
  obtain ⟨rfl, q⟩ := h
  cases ry
  refine is_none_gen (fin_bl I q ?_)
  cases x <;> first
    | (cases rx; rfl)
    | (obtain ⟨t, rfl⟩ := rx; rfl)
theorem op_notN : OpR X (compareOp .IsNot) (fun x y H Q => y = .non ∧ Q (.bl (!decide (x = .non))) H) := by
  intro pins s σ H x y v u Q I rx ry h
  obtain ⟨rfl, q⟩ := h
  cases ry
  refine isnot_none_gen (fin_bl I q ?_)
  cases x <;> first
    | (cases rx; rfl)
    | (obtain ⟨t, rfl⟩ := rx; rfl)
theorem nomark (b : Expr) {op : CmpOp} (h : op ≠ .In := by decide) (h2 : op ≠ .NotIn := by decide) : behindInMarks op b = false := by
  have e1 : (op == CmpOp.In) = false := by cases op <;> first | rfl | exact absurd rfl h
  have e2 : (op == CmpOp.NotIn) = false := by cases op <;> first | rfl | exact absurd rfl h2
  cases b <;> simp [behindInMarks, e1, e2]
theorem pe_cmpR {op : CmpOp} {r : R2} (ho : OpR X (compareOp op) r) (ha : PE X a ta) (hb : PE X b tb) (hm : behindInMarks op b = false) : PE X (.Compare a [op] [b] pos) (tOp r ta tb) := by
  intro pins s σ H Q I h
  exact wpAny_Compare1 (binT ha hb I h fun v u s2 x y H2 I2 rx ry q => ho pins s2 σ H2 x y v u Q I2 rx ry q) hm
def tTest (t : TE) : TT := fun σ H Q => t σ H fun x H' => ∃ k, x = .bl k ∧ Q k H'
theorem pt_cmpR {op : CmpOp} {r : R2} (ho : OpR X (compareOp op) r) (ha : PE X a ta) (hb : PE X b tb) (hm : behindInMarks op b = false) : PT X (.Compare a [op] [b] pos) (tTest (tOp r ta tb)) := by
  intro pins s σ H Q I h
  refine wpAny_isTrue_Compare1 (thn (ha pins s σ H _ I h) fun v s1 ⟨x, H1, I1, r1, q1⟩ => thn (hb pins s1 σ H1 _ I1 q1) fun u s2 ⟨y, H2, I2, r2, q2⟩ =>
    thn (ho pins s2 σ H2 x y v u _ I2 r1 r2 q2) fun c s3 ⟨z, H3, I3, r3, k, e, q3⟩ => ?_) hm
  subst e
  cases r3
  exact wpAny_truthy_bool ⟨H3, I3, q3⟩
theorem line63 : (sizeLine : Nat) < 2 ^ 63 := by rw [sizeLine_eq]; decide
theorem vals1 {x : V} {us : List Value} (r : Vals [x] us) : ∃ u, us = [u] ∧ RelV x u := by
  cases r with
  | cons r1 r2 => cases r2; exact ⟨_, rfl, r1⟩
theorem vals2 {x y : V} {us : List Value} (r : Vals [x, y] us) : ∃ u w', us = [u, w'] ∧ RelV x u ∧ RelV y w' := by
  cases r with
  | cons r1 r2 =>
    cases r2 with
    | cons r3 r4 => cases r4; exact ⟨_, _, rfl, r1, r3⟩
theorem call_abs : CallR X (.builtin "abs") (fun xs H Q => ∃ i, xs = [.int i] ∧ Q (.int (if i < 0 then -i else i)) H) := by
  intro pins s σ H xs us Q I r h
  obtain ⟨i, rfl, q⟩ := h
  obtain ⟨u, rfl, t, rfl⟩ := vals1 r
  exact call_abs_int fun u tk => ⟨.int (if i < 0 then -i else i), H, I.tok _, ⟨_, rfl⟩, q⟩
theorem call_int1 : CallR X (.type "int") (fun xs H Q => (∃ i, xs = [.int i] ∧ Q (.int i) H) ∨ ∃ k, xs = [.bl k] ∧ Q (.int (if k then 1 else 0)) H) := by
  intro pins s σ H xs us Q I r h
  rcases h with ⟨i, rfl, q⟩ | ⟨k, rfl, q⟩
  · obtain ⟨u, rfl, t, rfl⟩ := vals1 r
    exact call_int_int ⟨.int i, H, I, ⟨_, rfl⟩, q⟩
  · obtain ⟨u, rfl, r1⟩ := vals1 r
    cases r1
    exact call_int_bool ⟨.int (if k then 1 else 0), H, I.tok _, ⟨_, rfl⟩, q⟩
end
end L2
namespace L2
open PySem PySem.Spec PyProof.Rows
structure ObjM (h : Heap) (x dx C : Addr) (mA : Str → Option Value) : Prop where
  obj : h.get? x = some (PySem.W.instObj C dx)
  ns : h.Ns1 dx mA
  ne : dx ≠ x
theorem lookIn_ns {h : Heap} {dx : Addr} {mA : Str → Option Value} (n : h.Ns1 dx mA) : ∃ od, h.get? dx = some od ∧ ∀ name, PySem.W.lookIn name od = some (mA name) := by
  obtain ⟨o, es, ep, ho, hd, hk, _, hm⟩ := n
  refine ⟨o, ho, fun name => ?_⟩
  have e := hm name
  unfold nsFind findBy at e
  rw [← Array.find?_toList] at e
  unfold PySem.W.lookIn
  rw [hd]
  dsimp only
  split
  · rename_i y q
    rw [q] at e
    exact congrArg some e
  · rename_i q
    rw [q] at e
    have a : es.toList.any (·.refKey) = false := by
      rw [List.any_eq_false]
      intro y hy
      obtain ⟨z, t, hkey⟩ := hk y (Array.mem_toList_iff.mp hy)
      simp [DictEntry.refKey, hkey]
    have a' : ¬ es.toList.any (·.refKey) = true := by rw [a]; exact Bool.false_ne_true
    rw [if_neg a']
    exact congrArg some e
theorem ObjM.look {h : Heap} {x dx C : Addr} {mA : Str → Option Value} (I : ObjM h x dx C mA) : ∃ od, PySem.W.InstAt h x (PySem.W.instObj C dx) C (some od) ∧ ∀ name, PySem.W.lookIn name od = some (mA name) :=
  let ⟨od, ho, hl⟩ := lookIn_ns I.ns
  ⟨od, ⟨I.obj, rfl, rfl, ho⟩, hl⟩
section
variable {prog : Program} {w : World} {A : Around} {E : Value → Shared → Prop} {s : Shared} {K : PySem.W.Frag} {x dx C f : Addr} {mA : Str → Option Value} {name : Str} {v : Value}
theorem get_map {expr : Bool} {Q : Value → Shared → Prop} (X : K.In s.heap) (I : ObjM s.heap x dx C mA) (hg : PySem.W.plainGet K C name = true) (hh : PySem.W.hasDictIn K C = true)
    (ha : PySem.W.findIn K (.ref C) name = some none) (hv : mA name = some v) (hv' : PySem.W.handedIn v = true) (h : Q v { s with toks := s.toks + 1 }) :
    wpAny (model prog w) A (getAttr (.ref x) name expr) Q E s := by
  obtain ⟨od, J, hl⟩ := I.look
  exact PySem.W.get_value X J (PySem.W.plainGet_of hg).1 (PySem.W.findObj_own hh ha rfl (by rw [hl, hv])) hv' h
theorem get_meth {pl : Sem Bool} {Q : Value × List Value → Shared → Prop} (X : K.In s.heap) (I : ObjM s.heap x dx C mA) (hg : PySem.W.plainGet K C name = true)
    (hf : PySem.W.findIn K (.ref C) name = some (some (.ref f))) (ht : PySem.W.isFn K (.ref f) = true) (hv : mA name = none) (h : Q (.ref f, [.ref x]) s) :
    wpAny (model prog w) A (getMethod (.ref x) name pl) Q E s := by
  obtain ⟨od, J, hl⟩ := I.look
  exact PySem.W.method_fn X J (PySem.W.plainGet_of hg).1 (PySem.W.plainGet_of hg).2 hf (beq_iff_eq.mp ht) (by show (PySem.W.lookIn name od).map (·.isSome) = some false; rw [hl, hv]; rfl) h
theorem set_map {ns : List Str} {Q : Unit → Shared → Prop} (X : K.In s.heap) (I : ObjM s.heap x dx C mA)
    (hs : PySem.W.findIn K (.ref C) "__setattr__" = some (some (.builtin "object.__setattr__"))) (hp : PySem.W.plainOver K C = true) (ht : PySem.W.takerIn K C name = some none) (hh : PySem.W.hasDictIn K C = true)
    (hw : PySem.Within mA ns) (hsz : ns.length ≤ sizeLine)
    (h : ∀ h', ObjM h' x dx C (fun y => if y = name then some v else mA y) → Heap.SameBut dx s.heap h' → Q () { s with heap := h', toks := s.toks + 2 }) :
    wpAny (model prog w) A (setAttr (.ref x) name v) Q E s := by
  obtain ⟨od, J, hl⟩ := I.look
  refine PySem.W.set_plain X J hs (PySem.W.osa_open (s := { s with toks := s.toks + 1 }) (r := none) X J hp ht fun b => ?_)
  obtain ⟨cd, hc, hd'⟩ := PySem.W.any_some hh
  have hx : s.heap.get? x = some ⟨.ref C, some dx, .plain, #[]⟩ := I.obj
  refine wpAny_bind (wpAny_pure (wpAny_bind (wpAny_bind (wpAny_loadPart hx (wpAny_bind (PySem.W.Looks.here (s := { s with toks := s.toks + 1 }) (PySem.W.looks_clsIn X hc) ?_))))))
  rw [hd']
  refine wpAny_pure (a := some dx) (wpAny_bind (wpAny_pure (wpAny_bind ?_)))
  refine wpAny_nsSet1 (s := { s with toks := s.toks + 1 }) I.ns fun h' hn2 hs2 => ?_
  obtain ⟨oD, esD, epD, hoD, hdD, hcD⟩ := hn2.count (PySem.Within.cons name v hw)
  refine wpAny_bind (wpAny_lookBehind hoD (by rw [hdD]; exact pastItsLine_dict (Nat.le_trans hcD (by rw [List.length_cons]; omega))) ?_)
  exact wpAny_pure (h _ ⟨(hs2.2 _ (Ne.symm I.ne)).trans I.obj, hn2, I.ne⟩ hs2)
theorem make_map {R : Result → Shared → Prop} {vs : List Value} {kw : List (Str × Value)} (X : K.In s.heap) (hm : PySem.W.makesIn K C = true)
    (hi : PySem.W.findIn K (.ref C) "__init__" = some (some (.ref f))) (hf : PySem.W.typeIn K (.ref f) = some (.type "function"))
    (h : codeAny (model prog w) (A.under (.builtin "type.__call__" ⟨.ref C :: vs, kw⟩)) (.call (.ref f) ⟨.ref (s.heap.objs.size + 1) :: vs, kw⟩) (PySem.W.InitBack (s.heap.objs.size + 1) R)
      { s with heap := (s.heap.push PySem.W.emptyDict).push (PySem.W.instObj C s.heap.objs.size) }) :
    codeAny (model prog w) A (.call (.ref C) ⟨vs, kw⟩) R s := by
  obtain ⟨hh, g, d, t, os⟩ := s
  exact PySem.W.make_core (PySem.W.makes_of X hm) (PySem.W.looks_findIn X hi) (fun self => PySem.W.bind_fn X self hf) (.inl rfl) h
end
def putF (f : Str) (v : V) : List (Str × V) → List (Str × V)
  | [] => [(f, v)]
  | (g, x) :: r => if g = f then (g, v) :: r else (g, x) :: putF f v r
theorem lookup_putF (f g : Str) (v : V) : ∀ fs : List (Str × V), (putF f v fs).lookup g = if g = f then some v else fs.lookup g
  | [] => by
    show List.lookup g [(f, v)] = _
    by_cases h : g = f
    · have hb : (g == f) = true := beq_iff_eq.mpr h
      simp only [List.lookup, hb, if_pos h]
    · have hb : (g == f) = false := beq_eq_false_iff_ne.mpr h
      simp only [List.lookup, hb, if_neg h]
  | (k, x) :: r => by
    have ih := lookup_putF f g v r
    rw [show putF f v ((k, x) :: r) = (if k = f then (k, v) :: r else (k, x) :: putF f v r) from rfl]
    by_cases hk : k = f
    · rw [if_pos hk]
      by_cases h : g = k
      · have hb : (g == k) = true := beq_iff_eq.mpr h
        simp only [List.lookup, hb, if_pos (h.trans hk)]
      · have hb : (g == k) = false := beq_eq_false_iff_ne.mpr h
        simp only [List.lookup, hb, if_neg (fun e : g = f => h (e.trans hk.symm))]
    · rw [if_neg hk]
      by_cases h : g = k
      · have hb : (g == k) = true := beq_iff_eq.mpr h
        simp only [List.lookup, hb, if_neg (fun e : g = f => hk (h.symm.trans e))]
      · have hb : (g == k) = false := beq_eq_false_iff_ne.mpr h
        simp only [List.lookup, hb]
        exact ih
theorem keys_putF (f : Str) (v : V) : ∀ fs : List (Str × V), f ∈ (putF f v fs).map (·.1) ∧ ∀ g, g ∈ fs.map (·.1) → g ∈ (putF f v fs).map (·.1)
  | [] => ⟨by simp [putF], fun g h => by simp at h⟩
  | (k, x) :: r => by
    obtain ⟨i1, i2⟩ := keys_putF f v r
    rw [show putF f v ((k, x) :: r) = (if k = f then (k, v) :: r else (k, x) :: putF f v r) from rfl]
    by_cases hk : k = f
    · rw [if_pos hk]
      subst hk
      exact ⟨by simp, fun g h => by simpa using h⟩
    · rw [if_neg hk]
      refine ⟨?_, fun g h => ?_⟩
      · rw [List.map_cons]
        exact List.mem_cons_of_mem _ i1
      · rw [List.map_cons] at h ⊢
        rcases List.mem_cons.mp h with e | e
        · exact List.mem_cons.mpr (.inl e)
        · exact List.mem_cons_of_mem _ (i2 g e)
theorem length_putF (f : Str) (v : V) : ∀ fs : List (Str × V), (putF f v fs).length ≤ fs.length + 1
  | [] => by simp [putF]
  | (k, x) :: r => by
    have ih := length_putF f v r
    rw [show putF f v ((k, x) :: r) = (if k = f then (k, v) :: r else (k, x) :: putF f v r) from rfl]
    by_cases hk : k = f
    · rw [if_pos hk, List.length_cons, List.length_cons]; omega
    · rw [if_neg hk, List.length_cons, List.length_cons]; omega
theorem RelO.some_of {v : V} {o : Option Value} (r : RelO (some v) o) : ∃ u, o = some u ∧ RelV v u := by
  cases o with
  | none => exact (show False from r).elim
  | some u => exact ⟨u, rfl, r⟩
theorem RelO.none_of {o : Option Value} (r : RelO none o) : o = none := by
  cases o with
  | none => rfl
  | some u => exact (show False from r).elim
theorem handed_of {v : V} {u : Value} (r : RelV v u) : PySem.W.handedIn u = true := by
  cases v with
  | non => cases (show u = Value.none from r); rfl
  | bl b => cases (show u = Value.bool b from r); rfl
  | int i => obtain ⟨t, e⟩ := (show ∃ t, u = Value.int i t from r); cases e; rfl
  | str x => obtain ⟨t, e⟩ := (show ∃ t, u = Value.str x t from r); cases e; rfl
  | byt b => obtain ⟨t, e⟩ := (show ∃ t, u = Value.bytes b t from r); cases e; rfl
  | flt b => obtain ⟨t, e⟩ := (show ∃ t, u = Value.float b t from r); cases e; rfl
  | ref a => cases (show u = Value.ref a from r); rfl
  | ty n => cases (show u = Value.type n from r); rfl
section
variable {P : Program} {w : World} {H H' : Hp} {h h' : Heap} {a C dx : Addr} {fs fs' : List (Str × V)}
theorem ins_get (hok : HOk P w H h) (e : H a = some (.ins C dx fs)) : ∃ mA, ObjM h a dx C mA ∧ (∀ f, RelO (fs.lookup f) (mA f)) ∧ PySem.Within mA (fs.map (·.1)) ∧ fs.length ≤ 1000 ∧ H dx = some (.own a) := by
  obtain ⟨d, z, ne, ob, mA, n, r, q⟩ := (show ObjOk P w H h a (.ins C dx fs) from hok a _ e)
  exact ⟨mA, ⟨ob, n, ne⟩, r, q, z, d⟩
end
structure Cls (K : PySem.W.Frag) (C : Addr) : Prop where
  pg : PySem.W.plainGet K C Str.empty = true
  hd : PySem.W.hasDictIn K C = true
  po : PySem.W.plainOver K C = true
  sa : PySem.W.findIn K (.ref C) "__setattr__" = some (some (.builtin "object.__setattr__"))
theorem Cls.get {K : PySem.W.Frag} {C : Addr} (c : Cls K C) (f : Str) : PySem.W.plainGet K C f = true := c.pg
def NoAttr (K : PySem.W.Frag) (C : Addr) (f : Str) : Prop := PySem.W.findIn K (.ref C) f = some none
theorem NoAttr.taker {K : PySem.W.Frag} {C : Addr} {f : Str} (n : NoAttr K C f) : PySem.W.takerIn K C f = some none := by
  unfold PySem.W.takerIn
  rw [show PySem.W.findIn K (.ref C) f = some none from n]
  rfl
structure Meth (K : PySem.W.Frag) (C : Addr) (m : Str) (f : Addr) : Prop where
  at_ : PySem.W.findIn K (.ref C) m = some (some (.ref f))
  fn : PySem.W.isFn K (.ref f) = true
  kp : PySem.W.keepIn K (.ref f) = true
section
variable {X : Cx} {pins : List (Addr × Obj)} {σ : St} {H : Hp} {s : Shared} {a C dx : Addr} {fs : List (Str × V)} {f : Str} {v : V} {A : Around} {E : Value → Shared → Prop}
theorem getattr_ok {b : Bool} {Q : Value → Shared → Prop} (I : Inv X pins σ H s) (e : H a = some (.ins C dx fs)) (c : Cls X.K C) (n : NoAttr X.K C f) (l : fs.lookup f = some v)
    (h : ∀ u s', Inv X pins σ H s' → RelV v u → Q u s') : wpAny (model X.prog X.w) A (getAttr (.ref a) f b) Q E s := by
  obtain ⟨mA, O, r, _, _, _⟩ := ins_get I.hok e
  obtain ⟨u, hu, ru⟩ := RelO.some_of (v := v) (o := mA f) (by rw [← l]; exact r f)
  exact get_map I.kIn O (c.get f) c.hd n hu (handed_of ru) (h u _ (I.tok _) ru)
theorem getmeth_ok {m : Str} {g : Addr} {pl : Sem Bool} {Q : Value × List Value → Shared → Prop} (I : Inv X pins σ H s) (e : H a = some (.ins C dx fs)) (c : Cls X.K C) (k : Meth X.K C m g) (l : fs.lookup m = none)
    (h : Q (.ref g, [.ref a]) s) : wpAny (model X.prog X.w) A (getMethod (.ref a) m pl) Q E s := by
  obtain ⟨mA, O, r, _, _, _⟩ := ins_get I.hok e
  have hn : mA m = none := RelO.none_of (by rw [← l]; exact r m)
  exact get_meth I.kIn O (c.get m) k.at_ k.fn hn h
theorem setattr_ok {y : V} {u : Value} {Q : Unit → Shared → Prop} (I : Inv X pins σ H s) (e : H a = some (.ins C dx fs)) (c : Cls X.K C) (n : NoAttr X.K C f) (hl : fs.length < 1000) (ry : RelV y u)
    (h : ∀ s', Inv X pins σ (upd H a (.ins C dx (putF f y fs))) s' → Q () s') : wpAny (model X.prog X.w) A (setAttr (.ref a) f u) Q E s := by
  obtain ⟨mA, O, r, wi, _, ho⟩ := ins_get I.hok e
  have hz : (fs.map (·.1)).length ≤ sizeLine := by rw [List.length_map, sizeLine_eq]; omega
  refine set_map I.kIn O c.sa c.po n.taker c.hd wi hz fun h' O' sb => h _ ?_
  have hd : ∃ o, h'.get? dx = some o := let ⟨o, _, _, e', _⟩ := O'.ns; ⟨o, e'⟩
  refine I.write (x := a) (e := dx) (by rw [e]; exact True.intro) (.inr ho) (fun b q hb z => (sb.2 b hb).trans z) hd ?_
  refine ⟨by rw [upd_ne O.ne]; exact ho, ?_, O.ne, O'.obj, _, O'.ns, fun g => ?_, fun g hg => ?_⟩
  · have := length_putF f y fs; omega
  · show RelO ((putF f y fs).lookup g) (if g = f then some u else mA g)
    rw [lookup_putF]
    by_cases q : g = f
    · rw [if_pos q, if_pos q]; exact ry
    · rw [if_neg q, if_neg q]; exact r g
  · by_cases q : g = f
    · rw [q]; exact (keys_putF f y fs).1
    · refine (keys_putF f y fs).2 g (wi g fun z => hg ?_)
      show (if g = f then some u else mA g) = none
      rw [if_neg q]; exact z
theorem Inv.made (I : Inv X pins σ H s) : Inv X pins σ (upd (upd H s.heap.objs.size (.own (s.heap.objs.size + 1))) (s.heap.objs.size + 1) (.ins C s.heap.objs.size []))
    { s with heap := (s.heap.push PySem.W.emptyDict).push (PySem.W.instObj C s.heap.objs.size) } := by
  have e1 : (s.heap.push PySem.W.emptyDict).get? s.heap.objs.size = some PySem.W.emptyDict := Heap.get?_push_size s.heap rfl
  have e2 : ((s.heap.push PySem.W.emptyDict).push (PySem.W.instObj C s.heap.objs.size)).get? (s.heap.objs.size + 1) = some (PySem.W.instObj C s.heap.objs.size) := by
    have := Heap.get?_push_size (s.heap.push PySem.W.emptyDict) (o := PySem.W.instObj C s.heap.objs.size) rfl
    rwa [Heap.size_push] at this
  have e3 : (s.heap.push PySem.W.emptyDict).Ns s.heap.objs.size (fun _ => none) := ⟨PySem.W.emptyDict, #[], _, e1, rfl, (fun e he => absurd he (by simp)), fun _ => rfl⟩
  have I1 := I.laid (a := s.heap.objs.size) (o := .own (s.heap.objs.size + 1)) (h' := s.heap.push PySem.W.emptyDict) (t' := s.toks) (fun b u q => Heap.get?_push_of_some _ q) (Nat.le_refl _) ⟨_, e1⟩
  refine I1.laid (a := s.heap.objs.size + 1) (o := .ins C s.heap.objs.size []) (t' := s.toks) (fun b u q => Heap.get?_push_of_some _ q) (Nat.le_of_eq (Heap.size_push _ _)) ?_
  have ne : s.heap.objs.size ≠ s.heap.objs.size + 1 := Nat.ne_of_lt (Nat.lt_succ_self _)
  refine ⟨by rw [upd_ne ne, upd_same], Nat.zero_le _, ne, e2, fun _ => none, (Heap.Ns1.of_empty e3).at fun o q => Heap.get?_push_of_some _ q, fun _ => True.intro, fun y hy => absurd rfl hy⟩
theorem attr_of {prog : Program} {w : World} {env : Env} {e : Expr} {f : Str} {pos : Pos} {s : Shared} {Q : Value → Shared → Prop} (hb : attributeBase e f env (eval e env) = eval e env)
    (h : wpAny (model prog w) A (eval e env) (fun o s₁ => wpAny (model prog w) A (getAttr o f true) Q E s₁) E s) : wpAny (model prog w) A (eval (.Attribute e f pos) env) Q E s :=
  Attribute_any_ h (by rw [arm_eval_Attribute, hb])
end
def tFld (K : PySem.W.Frag) (ta : TE) (f : Str) : TE := fun σ H Q => ta σ H fun x H1 => ∃ a C dx fs v, x = .ref a ∧ H1 a = some (.ins C dx fs) ∧ Cls K C ∧ NoAttr K C f ∧ fs.lookup f = some v ∧ Q v H1
def sFld (K : PySem.W.Frag) (ta tv : TE) (f : Str) : TS := fun D σ H => tv σ H fun y H1 => ta σ H1 fun x H2 => ∃ a C dx fs, x = .ref a ∧ H2 a = some (.ins C dx fs) ∧ Cls K C ∧ NoAttr K C f ∧ fs.length < 1000 ∧
  D.nx σ (upd H2 a (.ins C dx (putF f y fs)))
section
variable {X : Cx} {o e value : Expr} {f : Str} {pos pos' tpos : Pos} {ta tv : TE}
theorem pe_fld (he : PE X e ta) (hb : attributeBase e f X.env (eval e X.env) = eval e X.env) : PE X (.Attribute e f pos) (tFld X.K ta f) := by
  intro pins s σ H Q I h
  refine attr_of hb (thn (he pins s σ H _ I h) fun u s1 ⟨x, H1, I1, rx, a, C, dx, fs, v, ex, ea, c, n, l, q⟩ => ?_)
  subst ex
  obtain rfl : u = Value.ref a := rx
  exact getattr_ok I1 ea c n l fun u' s2 I2 ru => ⟨v, H1, I2, ru, q⟩
theorem ps_fld (ha : PE X o ta) (hv : PE X value tv) (hs : swapsWith value (some (.Attribute o f pos')) pos.line X.env = pure false) : PS X (.Assign [.Attribute o f pos'] value pos) (sFld X.K ta tv f) := by
  intro pins s σ H D I h
  refine plainObj_wpAny_Assign_Attribute (thn (hv pins s σ H _ I h) fun u s1 ⟨y, H1, I1, ry, q⟩ => thn (ha pins s1 σ H1 _ I1 q) fun ov s2 ⟨x, H2, I2, rx, a, C, dx, fs, ex, ea, c, n, l, q2⟩ => ?_) hs
  subst ex
  obtain rfl : ov = Value.ref a := rx
  exact setattr_ok I2 ea c n l ry fun s3 I3 => ⟨σ, _, I3, q2⟩
end
section
variable {X : Cx} {pins : List (Addr × Obj)} {σ : St} {H : Hp} {s : Shared} {A : Around} {E : Value → Shared → Prop} {Q : Value → Shared → Prop} {c : Value} {b : Bool}
inductive TyOf (K : PySem.W.Frag) (H : Hp) : V → Value → Prop where
  | non : TyOf K H .non (.type "NoneType")
  | bl (x : Bool) : TyOf K H (.bl x) (.type "bool")
  | int (i : Int) : TyOf K H (.int i) (.type "int")
  | str (x : Str) : TyOf K H (.str x) (.type "str")
  | flt (x : UInt64) : TyOf K H (.flt x) (.type "float")
  | lst {a : Addr} {xs : List V} (e : H a = some (.lst xs)) : TyOf K H (.ref a) (.type "list")
  | frz {a : Addr} {o : Obj} {xs : List V} (e : H a = some (.frz o (.lst xs))) : TyOf K H (.ref a) (.type "list")
  | tup {a : Addr} {xs : List V} (e : H a = some (.tup xs)) : TyOf K H (.ref a) (.type "tuple")
  | dK {a : Addr} {kvs : List (Key × V)} (e : H a = some (.dK kvs)) : TyOf K H (.ref a) (.type "dict")
  | dT {a : Addr} {kvs : List (List Key × V)} (e : H a = some (.dT kvs)) : TyOf K H (.ref a) (.type "dict")
  | ins {a C dx : Addr} {fs : List (Str × V)} (e : H a = some (.ins C dx fs)) (cl : Cls K C) (ha : PySem.W.findIn K (.ref C) "__class__" = some (some (.builtin "object.__class__")))
      (hn : PySem.W.specialIn K (.builtin "object.__class__") "__get__" = some (some (.builtin "getset_descriptor.__get__"))) (htk : PySem.W.takesIn K (.builtin "object.__class__") = some true)
      (hm : PySem.W.mroIn K C (.type "object") = some true) : TyOf K H (.ref a) (.ref C)
theorem isinst_ok {x : V} {u t : Value} (I : Inv X pins σ H s) (rx : RelV x u) (ty : TyOf X.K H x t) (e : PySem.W.kitOne X.K t c = some b) (h : ∀ tk, Q (.bool b) { s with toks := tk }) :
    wpAny (model X.prog X.w) A (call (.builtin "isinstance") [u, c]) Q E s := by
  cases ty with
  | non => cases (show u = Value.none from rx); exact PySem.W.kia_one PySem.W.kitx_none I.kIn True.intro e (fun z => nomatch z) h
  | bl y => cases (show u = Value.bool y from rx); exact PySem.W.kia_one PySem.W.kitx_bool I.kIn True.intro e (fun z => nomatch z) h
  | int i => obtain ⟨t, q⟩ := (show ∃ t, u = Value.int i t from rx); cases q; exact PySem.W.kia_one PySem.W.kitx_int I.kIn True.intro e (fun z => nomatch z) h
  | str y => obtain ⟨t, q⟩ := (show ∃ t, u = Value.str y t from rx); cases q; exact PySem.W.kia_one PySem.W.kitx_str I.kIn True.intro e (fun z => nomatch z) h
  | flt y => obtain ⟨t, q⟩ := (show ∃ t, u = Value.float y t from rx); cases q; exact PySem.W.kia_one PySem.W.kitx_float I.kIn True.intro e (fun z => nomatch z) h
  | @lst a xs ea =>
    cases (show u = Value.ref a from rx)
    obtain ⟨_, _, n, _, h1⟩ := (show ObjOk X.prog X.w H s.heap a (.lst xs) from I.hok a _ ea)
    exact PySem.W.kia_one PySem.W.kitx_list I.kIn ⟨_, h1, rfl⟩ e (fun z => nomatch z) h
  | @frz a ob xs ea =>
    cases (show u = Value.ref a from rx)
    obtain ⟨_, _, _, n, _, h1⟩ := (show ObjOk X.prog X.w H s.heap a (.frz ob (.lst xs)) from I.hok a _ ea)
    exact PySem.W.kia_one PySem.W.kitx_list I.kIn ⟨_, h1, rfl⟩ e (fun z => nomatch z) h
  | @tup a xs ea =>
    cases (show u = Value.ref a from rx)
    obtain ⟨_, _, _, p⟩ := (show ObjOk X.prog X.w H s.heap a (.tup xs) from I.hok a _ ea)
    obtain ⟨o, h1, h2, _⟩ := p
    exact PySem.W.kia_one PySem.W.kitx_tuple I.kIn ⟨o, h1, h2⟩ e (fun z => nomatch z) h
  | @dK a kvs ea =>
    cases (show u = Value.ref a from rx)
    obtain ⟨_, _, vs, _, p⟩ := (show ObjOk X.prog X.w H s.heap a (.dK kvs) from I.hok a _ ea)
    obtain ⟨o, es, ep, h1, h2, _⟩ := p
    exact PySem.W.kia_one PySem.W.kitx_dict I.kIn ⟨o, h1, h2.1⟩ e (fun z => nomatch z) h
  | @dT a kvs ea =>
    cases (show u = Value.ref a from rx)
    obtain ⟨_, _, xs, _, o, es, ep, h1, h2, _⟩ := (show ObjOk X.prog X.w H s.heap a (.dT kvs) from I.hok a _ ea)
    exact PySem.W.kia_one PySem.W.kitx_dict I.kIn ⟨o, h1, h2.1⟩ e (fun z => nomatch z) h
  | @ins a C dx fs ea cl ha hn htk hm =>
    cases (show u = Value.ref a from rx)
    obtain ⟨mA, O, _⟩ := ins_get I.hok ea
    obtain ⟨od, J, _⟩ := O.look
    exact PySem.W.kia_one (PySem.W.kitx_own (cl.get _) cl.hd ha hn htk hm) I.kIn J e (fun z => nomatch z) h
end
end L2
namespace L2
open PySem PySem.Spec PyProof.Rows
structure Room (k : Nat) (A : Around) : Prop where
  hd : A.handled = none
  dp : A.depth + 3 * k + 5 < recursionLimit
  un : A.units + 16 * k + 200 < cLine
theorem make_depth {A : Around} {C : Addr} {us : List Value} {kw : List (Str × Value)} : (A.under (.builtin "type.__call__" ⟨.ref C :: us, kw⟩)).depth = A.depth + 1 := by
  first | rfl | simp [Around.under, Code.weight, Code.isCreation, Code.isGuard, Code.isCaller, Code.frames, Code.isFrame, guardIds]
theorem make_units {A : Around} {C : Addr} {us : List Value} {kw : List (Str × Value)} : (A.under (.builtin "type.__call__" ⟨.ref C :: us, kw⟩)).units = A.units + 1 := by
  first | rfl | simp [Around.under, Code.cUnits, Code.frames, Code.isFrame]
theorem Room.make {k : Nat} {A : Around} (r : Room (k + 1) A) (C : Addr) (us : List Value) (kw : List (Str × Value)) : Room k (A.under (.builtin "type.__call__" ⟨.ref C :: us, kw⟩)) :=
  ⟨r.hd, by have := r.dp; rw [make_depth]; omega, by have := r.un; rw [make_units]; omega⟩
def tNil : TA := fun _ H Q => Q [] H
def tCons (ta : TE) (tr : TA) : TA := fun σ H Q => ta σ H fun x H1 => tr σ H1 fun xs H2 => Q (x :: xs) H2
section
variable {X : Cx} {e : Expr} {es : List Expr} {te : TE} {t : TA} {pos : Pos}
theorem pa_nil : PA X [] tNil := fun _ _ _ _ H Q I h => Calls.spliced_nil ⟨[], H, I, .nil, h⟩
theorem pa_cons (ha : PE X e te) (hr : PA X es t) (hs : starEach (e :: es) X.env = (false, eval e X.env) :: starEach es X.env := by rfl) : PA X (e :: es) (tCons te t) := by
  intro pos pins s σ H Q I h
  rw [hs]
  show wpAny _ _ (spliced ((false, eval e X.env) :: backTo pos (starEach es X.env))) _ _ s
  refine Calls.spliced_cons (thn (ha pins s σ H _ I h) fun u s1 ⟨x, H1, I1, r1, q1⟩ => ?_)
  exact thn (hr pos pins s1 σ H1 _ I1 q1) fun us s2 ⟨xs, H2, I2, r2, q2⟩ => ⟨x :: xs, H2, I2, .cons r1 r2, q2⟩
def tTup (t : TA) : TE := fun σ H Q => t σ H fun xs H1 => xs.length ≤ sizeLine ∧ ∀ p, H1 p = none → Q (.ref p) (upd H1 p (.tup xs))
def tLst (t : TA) : TE := fun σ H Q => t σ H fun xs H1 => xs.length ≤ sizeLine ∧ ∀ p, H1 p = none → Q (.ref p) (upd H1 p (.lst xs))
theorem pe_tup {x1} (h : PA X es t) : PE X (.Tuple es x1 pos) (tTup t) := by
  intro pins s σ H Q I hq
  refine wpAny_Tuple_spliced (thn (h pos pins s σ H _ I hq) fun us s1 ⟨xs, H1, I1, r, z, q⟩ => ⟨by rw [← r.length]; exact z, ?_⟩)
  have hf : H1 s1.heap.objs.size = none := I1.hok.fresh (Nat.le_refl _)
  refine ⟨.ref s1.heap.objs.size, upd H1 s1.heap.objs.size (.tup xs), I1.laid (t' := s1.toks) (fun b u e => Heap.get?_push_of_some _ e) (Nat.le_refl _) ?_, rfl, q _ hf⟩
  exact ⟨z, us, r, ⟨_, Heap.get?_push_size _ rfl, rfl, _, rfl⟩⟩
theorem pe_lst (h : PA X es t) : PE X (.List es pos) (tLst t) := by
  intro pins s σ H Q I hq
  refine wpAny_List_spliced (thn (h pos pins s σ H _ I hq) fun us s1 ⟨xs, H1, I1, r, z, q⟩ => ⟨by rw [← r.length]; exact z, ?_⟩)
  have hf : H1 s1.heap.objs.size = none := I1.hok.fresh (Nat.le_refl _)
  refine ⟨.ref s1.heap.objs.size, upd H1 s1.heap.objs.size (.lst xs), I1.laid (t' := s1.toks) (fun b u e => Heap.get?_push_of_some _ e) (Nat.le_refl _) ?_, rfl, q _ hf⟩
  exact ⟨z, us, 0, r, Heap.get?_push_size _ rfl⟩
end
abbrev Sp := List V → Hp → VK → XK → Prop
abbrev CXT := List Env → Hp → Shared → XK → Value → Shared → Prop
structure Env0 (P : Program) (w : World) (K : PySem.W.Frag) (mg : Str → Option Value) (base : Heap) (A : Around) (outer : List Env) (s : Shared) (H : Hp) : Prop where
  frames : A.frames = some outer
  mod : Mod K mg base
  bs : ∀ b o, base.get? b = some o → s.heap.get? b = some o ∧ H b = none
  bsz : base.objs.size ≤ s.heap.objs.size
  funs : s.heap.FunFrames base outer
  frf : ∀ b ∈ frs outer, H b = none
  hok : HOk P w H s.heap
  bare : AllBare s.gens
def CE (outer : List Env) (P : Program) (w : World) (H : Hp) (s : Shared) (Q : VK) (u : Value) (s' : Shared) : Prop :=
  ∃ v H', s'.os = s.os ∧ AllBare s'.gens ∧ Un (frs outer) [] H H' s.heap s'.heap ∧ HOk P w H' s'.heap ∧ RelV v u ∧ Q v H'
def CR (CX : CXT) (outer : List Env) (P : Program) (w : World) (H : Hp) (s : Shared) (Q : VK) (E : XK) (r : Result) (s' : Shared) : Prop :=
  match r with
  | .ok (.ret u) => CE outer P w H s Q u s'
  | .ok _ => False
  | .error e => CX outer H s E e s'
structure FnOk (P : Program) (w : World) (K : PySem.W.Frag) (mg : Str → Option Value) (base : Heap) (CX : CXT) (k : Nat) (f : Addr) (fd : FuncData) (ps : List Str) (sp : Sp) : Prop where
  len : ∀ vs H Q E, sp vs H Q E → vs.length = ps.length
  run : ∀ (A : Around) (outer : List Env) (s : Shared) (H : Hp) (args : Args) (us : List Value) (vs : List V) (Q : VK) (E : XK), Room k A → Env0 P w K mg base A outer s H → BindsTo s fd args (ps.zip us) → Vals vs us → sp vs H Q E →
    codeAny (model P w) A (.call (.ref f) args) (CR CX outer P w H s Q E) s
theorem Env0.make {P : Program} {w : World} {K : PySem.W.Frag} {mg : Str → Option Value} {base : Heap} {A : Around} {outer : List Env} {s : Shared} {H : Hp} (e : Env0 P w K mg base A outer s H) (C : Addr) (us : List Value) (kw : List (Str × Value)) :
    Env0 P w K mg base (A.under (.builtin "type.__call__" ⟨.ref C :: us, kw⟩)) outer s H := ⟨by first | exact e.frames | (simpa [Around.under, Code.envs, Code.isFrame, pushEnvs] using e.frames), e.mod, e.bs, e.bsz, e.funs, e.frf, e.hok, e.bare⟩
section
variable {X : Cx} {pins : List (Addr × Obj)} {σ : St} {H : Hp} {s s' : Shared}
theorem Inv.env0 (I : Inv X pins σ H s) : Env0 X.prog X.w X.K X.mg X.base X.A X.stack s H :=
  ⟨I.ok.frames, I.ok.mod, I.bs, Nat.le_trans I.ok.bsz I.sz, I.stack, I.stkFree, I.hok, I.bare⟩
theorem Inv.after {Q : VK} {u : Value} (I : Inv X pins σ H s) (h : CE X.stack X.prog X.w H s Q u s') : EP X pins σ Q u s' := by
  obtain ⟨v, H', os, bare, un, hok, r, q⟩ := h
  obtain ⟨hh, g, d, t, os'⟩ := s'
  obtain rfl : os' = s.os := os
  exact ⟨v, H', I.call (h' := hh) (g' := g) (d' := d) (t' := t) (ch := []) un hok bare (fun b z => absurd z (by simp)), r, q⟩
end
def tCall (sp : Sp) (dvs : List V) (E : XK) (t : TA) : TE := fun σ H Q => t σ H fun vs H1 => sp (vs ++ dvs) H1 Q E
def tMake (C : Addr) (sp : Sp) (dvs : List V) (E : XK) (t : TA) : TE := fun σ H Q => t σ H fun vs H1 => ∀ x dx, H1 x = none → H1 dx = none → dx ≠ x →
  sp (.ref x :: (vs ++ dvs)) (upd (upd H1 dx (.own x)) x (.ins C dx [])) (fun v H2 => v = .non ∧ Q (.ref x) H2) E
def Binds (K : PySem.W.Frag) (fd : FuncData) (ps : List Str) (ds : List Value) : Prop :=
  ∀ (s : Shared) (us : List Value), K.In s.heap → (us ++ ds).length = ps.length → BindsTo s fd ⟨us, []⟩ (ps.zip (us ++ ds))
theorem Binds.all {K : PySem.W.Frag} {fd : FuncData} {ps : List Str} (h : ∀ us : List Value, us.length = ps.length → bindArgs fd ⟨us, []⟩ = pure (ps.zip us)) : Binds K fd ps [] := fun s us _ hl => by
  rw [List.append_nil] at hl ⊢
  exact .of_eq (h us hl)
def Passes (CX : CXT) (X : Cx) (E : XK) : Prop := ∀ (pins : List (Addr × Obj)) (σ : St) (H : Hp) (s : Shared) (e : Value) (s' : Shared), Inv X pins σ H s → CX X.stack H s E e s' → X.xe e s'
section
variable {X : Cx} {CX : CXT} {k : Nat} {f C : Addr} {fd : FuncData} {ps : List Str} {sp : Sp} {dvs : List V} {ds : List Value} {E : XK} {x m : Str} {p pos apos : Pos} {e o : Expr} {es : List Expr} {ta : TE} {t : TA}
theorem run_fn {pins : List (Addr × Obj)} {σ : St} {H : Hp} {s : Shared} {Q : VK} {us : List Value} {vs : List V} (F : FnOk X.prog X.w X.K X.mg X.base CX k f fd ps sp) (hr : Room k X.A) (hb : Binds X.K fd ps ds) (hd : Vals dvs ds) (hx : Passes CX X E)
    (I : Inv X pins σ H s) (r : Vals vs us) (h : sp (vs ++ dvs) H Q E) : wpAny (model X.prog X.w) X.A (call (.ref f) us) (EP X pins σ Q) X.xe s := by
  have r2 : Vals (vs ++ dvs) (us ++ ds) := r.append hd
  have hl : (us ++ ds).length = ps.length := by rw [← r2.length]; exact F.len _ _ _ _ h
  refine wpAny_call (codeAny_mono (F.run X.A X.stack s H ⟨us, []⟩ (us ++ ds) (vs ++ dvs) Q E hr I.env0 (hb s us I.kIn hl) r2 h) fun r s' hq => ?_)
  cases r with
  | error e => exact hx pins σ H s e s' I hq
  | ok fl =>
    cases fl with
    | ret u => exact I.after hq
    | next => exact False.elim hq
    | brk => exact False.elim hq
    | cont => exact False.elim hq
structure Mk (K : PySem.W.Frag) (C f : Addr) : Prop where
  makes : PySem.W.makesIn K C = true
  init : PySem.W.findIn K (.ref C) "__init__" = some (some (.ref f))
  fn : PySem.W.isFn K (.ref f) = true
  kp : PySem.W.keepIn K (.ref C) = true
theorem run_make {pins : List (Addr × Obj)} {σ : St} {H : Hp} {s : Shared} {Q : VK} {us : List Value} {vs : List V} (M : Mk X.K C f) (F : FnOk X.prog X.w X.K X.mg X.base CX k f fd ps sp) (hr : Room (k + 1) X.A) (hb : Binds X.K fd ps ds) (hd : Vals dvs ds)
    (hx : Passes CX X E) (I : Inv X pins σ H s) (r : Vals vs us)
    (h : ∀ x dx, H x = none → H dx = none → dx ≠ x → sp (.ref x :: (vs ++ dvs)) (upd (upd H dx (.own x)) x (.ins C dx [])) (fun v H2 => v = .non ∧ Q (.ref x) H2) E) :
    wpAny (model X.prog X.w) X.A (call (.ref C) us) (EP X pins σ Q) X.xe s := by
  have hq := h (s.heap.objs.size + 1) s.heap.objs.size (I.hok.fresh (Nat.le_succ _)) (I.hok.fresh (Nat.le_refl _)) (Nat.ne_of_lt (Nat.lt_succ_self _))
  have I2 := Inv.made (C := C) I
  have r2 : Vals (V.ref (s.heap.objs.size + 1) :: (vs ++ dvs)) (Value.ref (s.heap.objs.size + 1) :: (us ++ ds)) := .cons rfl (r.append hd)
  have hl : (Value.ref (s.heap.objs.size + 1) :: us ++ ds).length = ps.length := by
    have e := r2.length
    rw [F.len _ _ _ _ hq] at e
    exact e.symm
  refine wpAny_call (make_map (f := f) I.kIn M.makes M.init (beq_iff_eq.mp M.fn) (codeAny_mono (F.run _ X.stack _ _ ⟨Value.ref (s.heap.objs.size + 1) :: us, []⟩ (Value.ref (s.heap.objs.size + 1) :: (us ++ ds)) _ _ E (hr.make C us [])
    (I2.env0.make C us []) (hb _ (Value.ref (s.heap.objs.size + 1) :: us) I2.kIn hl) r2 hq) fun r s' hq' => ?_))
  cases r with
  | error e => exact hx pins σ _ _ e s' I2 hq'
  | ok fl =>
    cases fl with
    | ret u =>
      obtain ⟨v, H', I3, rv, ev, q3⟩ := I2.after hq'
      subst ev
      exact ⟨rv, ⟨V.ref (s.heap.objs.size + 1), H', I3, rfl, q3⟩⟩
    | next => exact False.elim hq'
    | brk => exact False.elim hq'
    | cont => exact False.elim hq'
theorem pe_make (M : Mk X.K C f) (F : FnOk X.prog X.w X.K X.mg X.base CX k f fd ps sp) (hr : Room (k + 1) X.A) (hg : Gl X x) (hm : X.mg x = some (.ref C)) (hb : Binds X.K fd ps ds) (hd : Vals dvs ds) (hx : Passes CX X E)
    (ha : PA X (e :: es) t) (hdb : (x == ("__debug__" : Str)) = false := by decide) (he : starEach (e :: es) X.env = (false, eval e X.env) :: starEach es X.env := by rfl) (hpl : (backTo pos (starEach es X.env)).any (·.1) = false := by rfl) :
    PE X (.Call (.Name x p) (e :: es) [] pos) (tMake C sp dvs E t) := by
  intro pins s σ H Q I h
  refine wpAny_Call_Name_kw (ld_glob I hg hm ?_ hdb)
  refine PySem.W.callWith_K (h₀ := X.base) I.ok.mod.kin M.kp (thn (ha pos pins s σ H _ I h) fun us s1 ⟨vs, H1, I1, r, q⟩ => ⟨I1.kIn, ?_⟩) he hpl
  exact run_make M F hr hb hd hx I1 r q
end
structure FnScope (N P : List Str) (sc : Scope) : Prop where
  kind : sc.kind = .function
  co : sc.isCoroutine = false
  gen : sc.isGenerator = false
  nd : N.Nodup
  pre : N.take P.length = P
  par : ∀ x ∈ P, sc.names.lookup x = some .local ∨ sc.names.lookup x = some .cell
  nofree : ∀ y ∈ sc.names, y.2 ≠ .free
theorem bindL_out {kindOf : Str → Option NameKind} {x : Str} : ∀ {binds : List (Str × Value)} {m : Str → Option Value}, (∀ v, (x, v) ∉ binds) → bindL kindOf binds m x = m x
  | [], _, _ => rfl
  | (n, v) :: r, m, h => by
    unfold bindL
    rw [bindL_out fun w hw => h w (List.mem_cons_of_mem _ hw)]
    split
    · have : x ≠ n := by rintro rfl; exact h v List.mem_cons_self
      simp [this]
    · rfl
theorem bindC_out {kindOf : Str → Option NameKind} {x : Str} : ∀ {binds : List (Str × Value)} {m : Str → Option Value}, (∀ v, (x, v) ∉ binds) → bindC kindOf binds m x = m x
  | [], _, _ => rfl
  | (n, v) :: r, m, h => by
    unfold bindC
    rw [bindC_out fun w hw => h w (List.mem_cons_of_mem _ hw)]
    split
    · rfl
    · have : x ≠ n := by rintro rfl; exact h v List.mem_cons_self
      simp [this]
theorem bindL_get {kindOf : Str → Option NameKind} {x : Str} {v : Value} : ∀ {P : List Str} {vs : List Value} {i : Nat} {m : Str → Option Value}, P.Nodup → P[i]? = some x → vs[i]? = some v → kindOf x = some .local →
    bindL kindOf (P.zip vs) m x = some v
  | [], _, _, _, _, h, _, _ => by simp at h
  | _ :: _, [], _, _, _, _, h, _ => by simp at h
  | p :: P, w :: vs, 0, m, nd, h1, h2, hk => by
    simp at h1 h2; subst h1; subst h2
    show bindL kindOf ((p, w) :: P.zip vs) m p = _
    unfold bindL
    rw [bindL_out fun v hv => (List.nodup_cons.mp nd).1 (List.of_mem_zip hv).1, if_pos hk]
    simp
  | p :: P, w :: vs, i + 1, m, nd, h1, h2, hk => by
    show bindL kindOf ((p, w) :: P.zip vs) m x = _
    unfold bindL
    exact bindL_get (i := i) (List.nodup_cons.mp nd).2 (by simpa using h1) (by simpa using h2) hk
theorem bindC_get {kindOf : Str → Option NameKind} {x : Str} {v : Value} : ∀ {P : List Str} {vs : List Value} {i : Nat} {m : Str → Option Value}, P.Nodup → P[i]? = some x → vs[i]? = some v → kindOf x ≠ some .local →
    bindC kindOf (P.zip vs) m x = some v
  | [], _, _, _, _, h, _, _ => by simp at h
  | _ :: _, [], _, _, _, _, h, _ => by simp at h
  | p :: P, w :: vs, 0, m, nd, h1, h2, hk => by
    simp at h1 h2; subst h1; subst h2
    show bindC kindOf ((p, w) :: P.zip vs) m p = _
    unfold bindC
    rw [bindC_out fun v hv => (List.nodup_cons.mp nd).1 (List.of_mem_zip hv).1, if_neg hk]
    simp
  | p :: P, w :: vs, i + 1, m, nd, h1, h2, hk => by
    show bindC kindOf ((p, w) :: P.zip vs) m x = _
    unfold bindC
    exact bindC_get (i := i) (List.nodup_cons.mp nd).2 (by simpa using h1) (by simpa using h2) hk
def start (N : List Str) (vs : List V) : St := vs.map some ++ List.replicate (N.length - vs.length) none
def cxOf (CX : CXT) (P : Program) (w : World) (K : PySem.W.Frag) (mg : Str → Option Value) (base : Heap) (N : List Str) (qual : Str) (scope : Scope) (f : Addr) (cd : Value) (A : Around) (outer : List Env) (s : Shared) (H : Hp) (E : XK) : Cx where
  prog := P
  w := w
  K := K
  mg := mg
  base := base
  A := A.deeper (envOfC qual scope s.heap.objs.size f cd)
  N := N
  s₀ := s
  H₀ := H
  env := envOfC qual scope s.heap.objs.size f cd
  outer := outer
  stack := envOfC qual scope s.heap.objs.size f cd :: outer
  ex := []
  calm := true
  fn := fun _ => true
  pn := []
  xe := fun e s' => wpAny (model P w) (A.deeper (envOfC qual scope s.heap.objs.size f cd)) (leaving (envOfC qual scope s.heap.objs.size f cd) e) (fun _ s'' => CX outer H s E e s'') (fun e' s'' => CX outer H s E e' s'') s'
theorem cell_has {sc : Scope} {n : Nat} {x : Str} (h : sc.names.lookup x = some .cell) : ∃ c, (cellsFrom n sc.names []).lookup x = some c := by
  have q := PySem.W.cellsFrom_some sc.names n [] (.inl h)
  exact Option.isSome_iff_exists.mp q
end L2
namespace L2
open PySem PySem.Spec PyProof.Rows
section
variable {X : Cx} {x : Str} {p pos : Pos} {e : Expr} {es : List Expr} {t : TA} {id T : String} {r : List V → Hp → VK → Prop}
def tCB (r : List V → Hp → VK → Prop) (t : TA) : TE := fun σ H Q => t σ H fun vs H1 => r vs H1 Q
theorem pe_callB (hc : CallR X (.builtin id) r) (hg : Gl X x) (hm : X.mg x = none) (hv : bootBuiltins x = some (.builtin id)) (ha : PA X (e :: es) t) (hn : x ≠ "__name__" := by decide) (hdb : (x == ("__debug__" : Str)) = false := by decide)
    (he : starEach (e :: es) X.env = (false, eval e X.env) :: starEach es X.env := by rfl) (hpl : (backTo pos (starEach es X.env)).any (·.1) = false := by rfl) : PE X (.Call (.Name x p) (e :: es) [] pos) (tCB r t) := by
  intro pins s σ H Q I h
  refine wpAny_Call_Name_kw (ld_blt I hg hm hv ?_ hn hdb)
  exact PyProof.Rows.callWith_builtin1 (thn (ha pos pins s σ H _ I h) fun us s1 ⟨vs, H1, I1, r1, q1⟩ => hc pins s1 σ H1 vs us Q I1 r1 q1) he hpl
theorem pe_callTy (hc : CallR X (.type T) r) (hg : Gl X x) (hm : X.mg x = none) (hv : bootBuiltins x = some (.type T)) (ha : PA X (e :: es) t) (hn : x ≠ "__name__" := by decide) (hdb : (x == ("__debug__" : Str)) = false := by decide)
    (he : starEach (e :: es) X.env = (false, eval e X.env) :: starEach es X.env := by rfl) (hpl : (backTo pos (starEach es X.env)).any (·.1) = false := by rfl) : PE X (.Call (.Name x p) (e :: es) [] pos) (tCB r t) := by
  intro pins s σ H Q I h
  refine wpAny_Call_Name_kw (ld_blt I hg hm hv ?_ hn hdb)
  exact PyProof.Rows.callWith_type1 (thn (ha pos pins s σ H _ I h) fun us s1 ⟨vs, H1, I1, r1, q1⟩ => hc pins s1 σ H1 vs us Q I1 r1 q1) he hpl
end
end L2
namespace HT
open PySem PyProof.Rows
section
variable {prog : Program} {w : World} {A : Around} {E : Value → Shared → Prop} {s : Shared}
def sIx (n d : Nat) : Option Int → Nat
  | none => d
  | some v => if v < 0 then (v + (n : Int)).toNat else min v.toNat n
theorem sIx_none (n d : Nat) : sIx n d none = d := rfl
theorem sIx_nat (n d k : Nat) : sIx n d (some (k : Int)) = min k n := by
  show (if (k : Int) < 0 then ((k : Int) + (n : Int)).toNat else min (k : Int).toNat n) = min k n
  rw [if_neg (by omega), Int.toNat_natCast]
theorem sIx_le (n d : Nat) (hd : d ≤ n) (o : Option Int) : sIx n d o ≤ n := by
  cases o with
  | none => exact hd
  | some v =>
    show (if v < 0 then (v + (n : Int)).toNat else min v.toNat n) ≤ n
    by_cases hv : v < 0
    · rw [if_pos hv]; omega
    · rw [if_neg hv]; exact Nat.min_le_right _ _
theorem clip_eq (v : Int) (n d : Nat) : (if v < 0 then max (v + (n : Int)) 0 else min v (n : Int)) = ((sIx n d (some v) : Nat) : Int) := by
  show (if v < 0 then max (v + (n : Int)) 0 else min v (n : Int)) = (((if v < 0 then (v + (n : Int)).toNat else min v.toNat n) : Nat) : Int)
  by_cases hv : v < 0
  · simp only [if_pos hv]; omega
  · simp only [if_neg hv]; omega
theorem adjust_gen (lo hi : Option Int) (n : Nat) : Builtin.Slice.sliceAdjust lo hi 1 (n : Int) = (((sIx n 0 lo : Nat) : Int), ((sIx n n hi : Nat) : Int)) := by
  have h1 : ¬ ((1 : Int) < 0) := by omega
  unfold Builtin.Slice.sliceAdjust
  simp only [h1, if_false]
  refine Prod.ext ?_ ?_
  · cases lo with
    | none => rfl
    | some v => exact clip_eq v n 0
  · cases hi with
    | none => rfl
    | some v => exact clip_eq v n n
theorem places_gen (i j : Nat) : Builtin.Slice.slicePlaces (i : Int) (j : Int) 1 = j - i := by
  unfold Builtin.Slice.slicePlaces
  have h1 : (1 : Int) > 0 := by omega
  simp only [h1, if_true, Int.ediv_one]
  split <;> omega
theorem slicePart_ {v : Value} {o : Option Int} {Q : Option Int → Shared → Prop} (p : IsPart v o) (h : Q o s) : wpAny (model prog w) A (Builtin.Slice.slicePartIndex v) Q E s := by
  cases p with
  | none => exact slicePart_none h
  | int i t => exact slicePart_int h
theorem sliceApplied_gen {sl : Addr} {vl vu : Value} {lo hi : Option Int} {n : Nat} {Q : Int × Int × Nat → Shared → Prop} (hs : s.heap.IsSliceOf sl vl vu .none) (pl : IsPart vl lo) (pu : IsPart vu hi)
    (h : Q (((sIx n 0 lo : Nat) : Int), 1, sIx n n hi - sIx n 0 lo) s) : wpAny (model prog w) A (Builtin.Slice.sliceApplied (.ref sl) (pure (n : Int))) Q E s := by
  obtain ⟨os, hos, hcs, hds⟩ := id hs
  unfold Builtin.Slice.sliceApplied Builtin.Slice.sliceFields
  refine wpAny_bind (wpAny_bind (wpAny_field hos hds (x := vl) rfl (wpAny_bind (wpAny_field hos hds (x := vu) rfl (wpAny_bind (wpAny_field hos hds (x := .none) rfl (wpAny_pure ?_)))))))
  refine wpAny_bind (slicePart_none ?_)
  show wpAny _ _ (if ((1 : Int) == 0) = true then _ else _) _ _ s
  rw [if_neg (by decide)]
  refine wpAny_bind (slicePart_ pl (wpAny_bind (slicePart_ pu (wpAny_bind (wpAny_pure ?_)))))
  show wpAny _ _ (match Builtin.Slice.sliceAdjust lo hi 1 (n : Int) with | (lo, hi) => pure (lo, (1 : Int), Builtin.Slice.slicePlaces lo hi 1)) _ _ s
  rw [adjust_gen lo hi n]
  show wpAny _ _ (pure (((sIx n 0 lo : Nat) : Int), (1 : Int), Builtin.Slice.slicePlaces ((sIx n 0 lo : Nat) : Int) ((sIx n n hi : Nat) : Int) 1)) _ _ s
  rw [places_gen]
  exact wpAny_pure h
theorem pick_gen (xs : Array Value) (i k : Nat) : ((List.range k).filterMap fun (m : Nat) => xs[((i : Int) + (m : Int) * 1).toNat]?).toArray = ((xs.toList.drop i).take k).toArray := by
  have e : (fun (m : Nat) => xs[((i : Int) + (m : Int) * 1).toNat]?) = fun m => xs[i + m]? := by
    funext m
    have : ((i : Int) + (m : Int) * 1).toNat = i + m := by omega
    rw [this]
  rw [e]
  have := pick_run xs i k
  rw [List.filterMap_map] at this
  have e2 : ((fun x => xs[x]?) ∘ fun x => i + x) = fun m => xs[i + m]? := rfl
  rw [e2] at this
  rw [this]
theorem getItem_tuple_cut {t sl : Addr} {items : Array Value} {vl vu : Value} {lo hi : Option Int} {Q : Value → Shared → Prop} (ht : IsTup s.heap t items) (hs : s.heap.IsSliceOf sl vl vu .none) (pl : IsPart vl lo) (pu : IsPart vu hi)
    (hw : ¬ (sIx items.size 0 lo = 0 ∧ sIx items.size items.size hi = items.size))
    (h : Q (.ref s.heap.objs.size) { s with heap := s.heap.push { cls := .type "tuple", data := .seq ((items.toList.drop (sIx items.size 0 lo)).take (sIx items.size items.size hi - sIx items.size 0 lo)).toArray } })
    (hsz : items.size ≤ sizeLine) : wpAny (model prog w) A (getItem (.ref t) (.ref sl)) Q E s := by
  have htake : sizeOk (.seq ((items.toList.drop (sIx items.size 0 lo)).take (sIx items.size items.size hi - sIx items.size 0 lo)).toArray) := by
    show ((items.toList.drop (sIx items.size 0 lo)).take (sIx items.size items.size hi - sIx items.size 0 lo)).toArray.size ≤ sizeLine
    rw [List.size_toArray, List.length_take, List.length_drop, Array.length_toList]
    omega
  have hj : sIx items.size items.size hi ≤ items.size := sIx_le _ _ (Nat.le_refl _) hi
  obtain ⟨os, hos, hcs, hds⟩ := id hs
  have hTs : s.TypeIs (.ref sl) "slice" := ⟨os, hos, hcs⟩
  unfold getItem
  try with_reducible refine wpAny_holding ?_
  first | refine wpAny_bind (wpAny_pure ?_) | skip
  refine wpAny_bind (wpAny_sequenceKey ht.typeIs (by decide) ?_)
  refine wpAny_bind (wpAny_callSpecial?_slot (name := Str.ofString "__getitem__") ht.typeIs PyProof.Rows.slot_tuple_getitem
    (wpAny_call_entry PyProof.Rows.slot_tuple_getitem ht.typeIs entry_tuple_getitem ?_ (args_tuple_getitem _ _)))
  show wpAny _ _ (Builtin.Tuple.tupleItemsOf (.ref t) >>= _) _ _ s
  refine wpAny_bind (tupleItemsOf_ ht ?_)
  refine wpAny_bind (wpAny_typeOf hTs ?_)
  rw [if_pos (by decide)]
  refine wpAny_bind (sliceApplied_gen hs pl pu ?_)
  have hno : ¬ ((((sIx items.size 0 lo : Nat) : Int) == 0 && (1 : Int) == 1 && (sIx items.size items.size hi - sIx items.size 0 lo) == items.size) = true) := by
    intro q
    rw [Bool.and_eq_true, Bool.and_eq_true] at q
    have q1 : ((sIx items.size 0 lo : Nat) : Int) = 0 := eq_of_beq q.1.1
    have q2 : sIx items.size items.size hi - sIx items.size 0 lo = items.size := eq_of_beq q.2
    exact hw ⟨by omega, by omega⟩
  show wpAny _ _ (if (((sIx items.size 0 lo : Nat) : Int) == 0 && (1 : Int) == 1 && (sIx items.size items.size hi - sIx items.size 0 lo) == items.size) = true then _ else _) _ _ s
  rw [if_neg hno, pick_gen]
  first
    | exact wpAny_bind (m := Builtin.Tuple.tupleExact _) (wpAny_newObj_type (wpAny_pure ⟨_, rfl, wpAny_pure h⟩) htake)
    | exact wpAny_bind (m := Builtin.Tuple.tupleExact _) (wpAny_newObj_type (wpAny_bind (wpAny_pure (wpAny_pure ⟨_, rfl, wpAny_pure h⟩))) htake)
    | exact wpAny_bind (wpAny_bind (m := Builtin.Tuple.tupleExact _) (wpAny_newObj_type (wpAny_pure (wpAny_pure ⟨_, rfl, wpAny_pure h⟩)) htake))
    | exact wpAny_bind (wpAny_bind (m := Builtin.Tuple.tupleExact _) (wpAny_newObj_type (wpAny_pure ⟨_, rfl, wpAny_pure h⟩) htake))
end
end HT
namespace L2
open PySem PySem.Spec PyProof.Rows
abbrev TO := St → Hp → (Option Int → Hp → Prop) → Prop
def PO (X : Cx) (e : Option Expr) (t : TO) : Prop :=
  ∀ (pins : List (Addr × Obj)) (s : Shared) (σ : St) (H : Hp) (Q : Option Int → Hp → Prop), Inv X pins σ H s → t σ H Q →
    wpAny (model X.prog X.w) X.A (evalPart e X.env) (fun u s' => ∃ o H', Inv X pins σ H' s' ∧ IsPart u o ∧ Q o H') X.xe s
def tNoPart : TO := fun _ H Q => Q none H
def tPart (t : TE) : TO := fun σ H Q => t σ H fun x H1 => ∃ i, x = .int i ∧ Q (some i) H1
section
variable {X : Cx} {e : Expr} {te : TE} {lo hi : Option Expr} {tl th : TO} {pos p2 : Pos}
theorem po_none : PO X none tNoPart := by
  intro pins s σ H Q I h
  rw [evalPart_none]
  exact wpAny_pure ⟨none, H, I, .none, h⟩
theorem po_some (h : PE X e te) : PO X (some e) (tPart te) := by
  intro pins s σ H Q I hw
  rw [evalPart_some]
  refine thn (h pins s σ H _ I hw) fun u s1 ⟨x, H1, I1, r1, q1⟩ => ?_
  obtain ⟨i, rfl, q⟩ := q1
  obtain ⟨t, rfl⟩ := r1
  exact ⟨some i, H1, I1, .int i t, q⟩
def SlR (X : Cx) (r : V → Option Int → Option Int → Hp → VK → Prop) : Prop :=
  ∀ (pins : List (Addr × Obj)) (s : Shared) (σ : St) (H : Hp) (x : V) (v vl vu : Value) (lo hi : Option Int) (sl : Addr) (Q : VK), Inv X pins σ H s → RelV x v → s.heap.IsSliceOf sl vl vu .none → IsPart vl lo → IsPart vu hi → r x lo hi H Q →
    ∃ T id, typeLookup (.type T) "__getitem__" = pure (some (.builtin id)) ∧ s.TypeIs v T ∧ wpAny (model X.prog X.w) X.A (getItem v (.ref sl)) (EP X pins σ Q) X.xe s
def tSl (r : V → Option Int → Option Int → Hp → VK → Prop) (te : TE) (tl th : TO) : TE := fun σ H Q => te σ H fun x H1 => tl σ H1 fun l H2 => th σ H2 fun u H3 => r x l u H3 Q
theorem pe_slice {r : V → Option Int → Option Int → Hp → VK → Prop} (hr : SlR X r) (he : PE X e te) (hl : PO X lo tl) (hu : PO X hi th) : PE X (.Subscript e (.Slice lo hi none p2) pos) (tSl r te tl th) := by
  intro pins s σ H Q I h
  refine Subscript_ (thn (he pins s σ H _ I h) fun v s1 ⟨x, H1, I1, r1, q1⟩ => ?_)
  refine wpAny_Slice (thn (hl pins s1 σ H1 _ I1 q1) fun vl s2 ⟨l, H2, I2, pl, q2⟩ => thn (hu pins s2 σ H2 _ I2 q2) fun vu s3 ⟨u, H3, I3, pu, q3⟩ => ?_)
  rw [evalPart_none]
  refine wpAny_pure ?_
  have I4 : Inv X pins σ H3 { s3 with heap := s3.heap.push { cls := .type "slice", data := .fields #[vl, vu, .none] } } := I3.kept (t' := s3.toks) fun b ob q => Heap.get?_push_of_some _ q
  obtain ⟨T, id, hT, ht, hg⟩ := hr pins { s3 with heap := s3.heap.push { cls := .type "slice", data := .fields #[vl, vu, .none] } } σ H3 x v vl vu l u s3.heap.objs.size Q I4 r1 (Heap.IsSliceOf.new ..) pl pu q3
  show wpAny (model X.prog X.w) X.A (subscriptTail e (.Slice lo hi none p2) v (.ref s3.heap.objs.size)) (EP X pins σ Q) X.xe { s3 with heap := s3.heap.push { cls := .type "slice", data := .fields #[vl, vu, .none] } }
  exact tail_any (ops := [.ref s3.heap.objs.size, v]) ht hT hg (by with_unfolding_all rfl)
def cutV (xs : List V) (lo hi : Option Int) : List V := (xs.drop (HT.sIx xs.length 0 lo)).take (HT.sIx xs.length xs.length hi - HT.sIx xs.length 0 lo)
theorem cutV_length (xs : List V) (lo hi : Option Int) : (cutV xs lo hi).length ≤ xs.length := by
  unfold cutV
  rw [List.length_take, List.length_drop]
  omega
def rSlT (K : PySem.W.Frag) : V → Option Int → Option Int → Hp → VK → Prop := fun x lo hi H Q => ∃ a xs, x = .ref a ∧ SqT K H a xs ∧
  ¬ (HT.sIx xs.length 0 lo = 0 ∧ HT.sIx xs.length xs.length hi = xs.length) ∧ ∀ p, H p = none → Q (.ref p) (upd H p (.tup (cutV xs lo hi)))
theorem sl_tup : SlR X (rSlT X.K) := by
  intro pins s σ H x v vl vu lo hi sl Q I rx hs pl pu h
  obtain ⟨a, xs, rfl, hx, hw, q⟩ := h
  cases rx
  obtain ⟨its, r, ht, hz⟩ := I.tuple hx
  have hlen : its.toArray.size = xs.length := by rw [List.size_toArray]; exact r.length.symm
  refine ⟨"tuple", _, PyProof.Rows.slot_tuple_getitem.lookup, ht.typeIs, ?_⟩
  refine HT.getItem_tuple_cut ht hs pl pu (by rw [hlen]; exact hw) ?_ (by rw [hlen]; exact hz)
  rw [hlen]
  refine ⟨.ref s.heap.objs.size, _, I.laid (t' := s.toks) (o := .tup (cutV xs lo hi)) (fun b ob q => Heap.get?_push_of_some _ q) (Nat.le_refl _) ?_, rfl, q _ (I.hok.fresh (Nat.le_refl _))⟩
  exact ⟨Nat.le_trans (cutV_length xs lo hi) hz, _, (r.drop (HT.sIx xs.length 0 lo)).take (HT.sIx xs.length xs.length hi - HT.sIx xs.length 0 lo), IsTup.new _ _⟩
end
end L2
namespace L2
open PySem PySem.Spec PyProof.Rows
def ixN (n : Nat) (i : Int) : Option Nat := if 0 ≤ i then (if i < n then some i.toNat else none) else if -(n : Int) ≤ i then some (i + n).toNat else none
def atI {α : Type} (xs : List α) (i : Int) : Option α := (ixN xs.length i).bind fun j => xs[j]?
theorem ixN_seq {n : Nat} {i : Int} {j : Nat} (h : ixN n i = some j) : seqIndex? i n = some j ∧ j < n ∧ -(n : Int) ≤ i ∧ i < n := by
  unfold ixN at h
  by_cases h0 : 0 ≤ i
  · rw [if_pos h0] at h
    by_cases h1 : i < n
    · rw [if_pos h1] at h
      have e : i.toNat = j := Option.some.inj h
      exact ⟨by rw [seqIndex_of h0 h1, e], by omega, by omega, h1⟩
    · rw [if_neg h1] at h; cases h
  · rw [if_neg h0] at h
    by_cases h1 : -(n : Int) ≤ i
    · rw [if_pos h1] at h
      have e : (i + n).toNat = j := Option.some.inj h
      exact ⟨by rw [seqIndex_neg (by omega) h1, e], by omega, h1, by omega⟩
    · rw [if_neg h1] at h; cases h
theorem atI_get {α : Type} {xs : List α} {i : Int} {v : α} (h : atI xs i = some v) : ∃ j, seqIndex? i xs.length = some j ∧ xs[j]? = some v ∧ j < xs.length ∧ -(xs.length : Int) ≤ i ∧ i < xs.length := by
  unfold atI at h
  cases e : ixN xs.length i with
  | none => rw [e] at h; cases h
  | some j =>
    rw [e] at h
    obtain ⟨h1, h2, h3, h4⟩ := ixN_seq e
    exact ⟨j, h1, h, h2, h3, h4⟩
theorem atI_nat {α : Type} {xs : List α} {j : Nat} {v : α} (h : xs[j]? = some v) : atI xs (j : Int) = some v := by
  have hj : j < xs.length := (List.getElem?_eq_some_iff.mp h).1
  have e : ixN xs.length (j : Int) = some j := by
    unfold ixN
    rw [if_pos (by omega), if_pos (by omega)]; simp
  unfold atI; rw [e]; exact h
def PlainIx (b : Expr) : Prop := ∀ o i, subscripted b false o i = operate [o, i] (getItem o i)
def IxR (X : Cx) (r : R2) : Prop :=
  ∀ (value slice : Expr) (pins : List (Addr × Obj)) (s : Shared) (σ : St) (H : Hp) (x y : V) (v u : Value) (Q : VK), Inv X pins σ H s → RelV x v → RelV y u → r x y H Q →
    subscripted slice false v u = operate [v, u] (getItem v u) → wpAny (model X.prog X.w) X.A (subscriptTail value slice v u) (EP X pins σ Q) X.xe s
def MtR (X : Cx) (id : String) (r : V → List V → Hp → VK → Prop) : Prop :=
  ∀ (pins : List (Addr × Obj)) (s : Shared) (σ : St) (H : Hp) (x : V) (xs : List V) (v : Value) (us : List Value) (Q : VK), Inv X pins σ H s → RelV x v → Vals xs us → r x xs H Q →
    wpAny (model X.prog X.w) X.A (call (.builtin id) (v :: us)) (EP X pins σ Q) X.xe s
section
variable {X : Cx} {a b : Expr} {ta tb : TE} {pos : Pos}
theorem pe_ix {r : R2} (hr : IxR X r) (ha : PE X a ta) (hb : PE X b tb) (hs : PlainIx b) : PE X (.Subscript a b pos) (tOp r ta tb) := by
  intro pins s σ H Q I h
  exact Subscript_ (binT ha hb I h fun v u s2 x y H2 I2 rx ry q => hr a b pins s2 σ H2 x y v u Q I2 rx ry q (hs _ _))
def rIxL (K : PySem.W.Frag) : R2 := fun x y H Q => ∃ p xs i v, x = .ref p ∧ y = .int i ∧ SqL K H p xs ∧ atI xs i = some v ∧ Q v H
def rIxT (K : PySem.W.Frag) : R2 := fun x y H Q => ∃ p xs i v, x = .ref p ∧ y = .int i ∧ SqT K H p xs ∧ atI xs i = some v ∧ Q v H
theorem ix_list : IxR X (rIxL X.K) := by
  intro value slice pins s σ H x y v u Q I rx ry h hs
  obtain ⟨p, xs, i, z, rfl, rfl, hq, he, q⟩ := h
  cases rx
  obtain ⟨t, rfl⟩ := ry
  obtain ⟨its, r, pl, hz⟩ := I.list hq
  obtain ⟨j, h1, h2, h3, h4, h5⟩ := atI_get he
  obtain ⟨w, ew, rw'⟩ := r.get h2
  have hl := r.length
  have hn := line63
  have fin : EP X pins σ Q w s := ⟨z, H, I, rw', q⟩
  by_cases h0 : 0 ≤ i
  · have hj : i.toNat = j := by
      rw [seqIndex_of h0 h5] at h1
      exact Option.some.inj h1
    exact item_listR pl.isList h0 (by omega) (by rw [hj]; simpa using ew) fin hs
  · have hj : (i + (its.toArray.size : Int)).toNat = j := by
      rw [seqIndex_neg (by omega) h4] at h1
      rw [List.size_toArray, ← hl]
      exact Option.some.inj h1
    exact subscriptTail_builtinR (x := w) pl.isList.typeIs slot_list_getitem.lookup
      (wpAny_getItem_list_neg (Q := fun r s' => r = w ∧ EP X pins σ Q r s') pl.isList (by omega) (by rw [List.size_toArray] <;> omega) (by omega) (by rw [hj]; simpa using ew) ⟨rfl, fin⟩) hs
theorem ix_tup : IxR X (rIxT X.K) := by
  intro value slice pins s σ H x y v u Q I rx ry h hs
  obtain ⟨p, xs, i, z, rfl, rfl, hq, he, q⟩ := h
  cases rx
  obtain ⟨t, rfl⟩ := ry
  obtain ⟨its, r, pl, hz⟩ := I.tuple hq
  obtain ⟨j, h1, h2, h3, h4, h5⟩ := atI_get he
  obtain ⟨w, ew, rw'⟩ := r.get h2
  have hl := r.length
  have hn := line63
  have fin : EP X pins σ Q w s := ⟨z, H, I, rw', q⟩
  exact subscriptTail_builtinR (x := w) pl.typeIs slot_tuple_getitem.lookup
    (getItem_tuple (j := j) (Q := fun r s' => r = w ∧ EP X pins σ Q r s') pl (by omega) (by omega) (by rw [List.size_toArray, ← hl]; exact h1) (by simpa using ew) ⟨rfl, fin⟩) hs
theorem mapSeq_set (its : List Value) (n j : Nat) (u : Value) : Obj.mapSeq (·.setIfInBounds j u) { cls := .type "list", data := .seq its.toArray n } = { cls := .type "list", data := .seq (its.set j u).toArray n } := by
  simp [Obj.mapSeq]
theorem Inv.lst {pins : List (Addr × Obj)} {σ : St} {H : Hp} {s : Shared} {p : Addr} {xs : List V} (I : Inv X pins σ H s) (h : H p = some (.lst xs)) :
    ∃ (its : List Value) (n : Nat), Vals xs its ∧ s.heap.get? p = some { cls := .type "list", data := .seq its.toArray n } ∧ xs.length ≤ sizeLine := by
  obtain ⟨z, its, n, r, e⟩ := I.hok p _ h
  exact ⟨its, n, r, e, z⟩
theorem Inv.lstUpd {pins : List (Addr × Obj)} {σ : St} {H : Hp} {s : Shared} {p : Addr} {xs ys : List V} {its its' : List Value} {n n' : Nat} {f : Obj → Obj} (I : Inv X pins σ H s) (h : H p = some (.lst xs))
    (ho : s.heap.get? p = some { cls := .type "list", data := .seq its.toArray n }) (hf : f { cls := .type "list", data := .seq its.toArray n } = { cls := .type "list", data := .seq its'.toArray n' }) (r : Vals ys its') (hz : ys.length ≤ sizeLine) (t : Nat) :
    Inv X pins σ (upd H p (.lst ys)) { s with heap := s.heap.update p f, toks := t } := by
  have e : (s.heap.update p f).get? p = some { cls := .type "list", data := .seq its'.toArray n' } := by
    rw [Heap.get?_update_self f ho (by rw [hf] <;> rfl), hf]
  refine I.write (x := p) (e := p) (by rw [h]; trivial) (.inl rfl) (fun b u hb q => (Heap.get?_update_other _ _ (Ne.symm hb)).trans q) ⟨_, e⟩ ?_
  exact ⟨hz, its', n', r, e⟩
def rSetL : V → V → V → Hp → (Hp → Prop) → Prop := fun o i v H Q => ∃ p xs k j, o = .ref p ∧ i = .int k ∧ H p = some (.lst xs) ∧ ixN xs.length k = some j ∧ Q (upd H p (.lst (xs.set j v)))
theorem set_list : PSet X rSetL := by
  intro pins s σ H o i v ov iv u Q I ro ri rv h
  obtain ⟨p, xs, k, j, rfl, rfl, hp, hj, q⟩ := h
  cases ro
  obtain ⟨t, rfl⟩ := ri
  obtain ⟨its, n, r, ho, hz⟩ := I.lst hp
  obtain ⟨h1, h2, h3, h4⟩ := ixN_seq hj
  have hl := r.length
  have hn := line63
  have I' : Inv X pins σ (upd H p (.lst (xs.set j v))) { s with heap := s.heap.update p (Obj.mapSeq (·.setIfInBounds j u)) } :=
    I.lstUpd hp ho (mapSeq_set its n j u) (r.set rv j) (by rw [List.length_set]; exact hz) s.toks
  by_cases h0 : 0 ≤ k
  · have hk : k.toNat = j := by
      rw [seqIndex_of h0 h4] at h1
      exact Option.some.inj h1
    exact PySem.W.ki_setAt ho h0 (by omega) (by rw [List.size_toArray, ← hl]; exact h4) (by rw [hk]; exact ⟨_, I', q⟩)
  · have hk : (k + (its.toArray.size : Int)).toNat = j := by
      rw [seqIndex_neg (by omega) h3] at h1
      rw [List.size_toArray, ← hl]
      exact Option.some.inj h1
    exact PySem.W.ki_setBack ho (by omega) (by rw [List.size_toArray, ← hl]; exact h3) (by omega) (by rw [hk]; exact ⟨_, I', q⟩)
theorem slice_bounds (lo hi : Option Int) (n : Nat) : (sliceBounds lo hi none n).1 = ((HT.sIx n 0 lo : Nat) : Int) ∧ (sliceBounds lo hi none n).2.1 = ((HT.sIx n n hi : Nat) : Int) ∧ (sliceBounds lo hi none n).2.2 = 1 := by
  refine ⟨?_, ?_, rfl⟩
  · cases lo with
    | none => simp [sliceBounds, HT.sIx]
    | some i =>
      simp only [sliceBounds, HT.sIx, Option.getD_none, show (1 : Int) > 0 by decide, if_true]
      by_cases h : i < 0
      · simp only [h, if_true] <;> omega
      · simp only [h, if_false] <;> omega
  · cases hi with
    | none => simp [sliceBounds, HT.sIx]
    | some i =>
      simp only [sliceBounds, HT.sIx, Option.getD_none, show (1 : Int) > 0 by decide, if_true]
      by_cases h : i < 0
      · simp only [h, if_true] <;> omega
      · simp only [h, if_false] <;> omega
theorem slicePick_cut (its : List Value) (lo hi : Option Int) : slicePick its.toArray lo hi none = ((its.drop (HT.sIx its.length 0 lo)).take (HT.sIx its.length its.length hi - HT.sIx its.length 0 lo)).toArray := by
  obtain ⟨h1, h2, h3⟩ := slice_bounds lo hi its.toArray.size
  unfold slicePick
  rw [h1, h2, h3]
  simp only [sliceRange_one, pick_run, List.size_toArray] <;> rfl
def rSlL (K : PySem.W.Frag) : V → Option Int → Option Int → Hp → VK → Prop := fun x lo hi H Q => ∃ a xs, x = .ref a ∧ SqL K H a xs ∧ ∀ p, H p = none → Q (.ref p) (upd H p (.lst (cutV xs lo hi)))
theorem sl_list : SlR X (rSlL X.K) := by
  intro pins s σ H x v vl vu lo hi sl Q I rx hs pl pu h
  obtain ⟨a, xs, rfl, hx, q⟩ := h
  cases rx
  obtain ⟨its, r, ht, hz⟩ := I.list hx
  have hlen := r.length
  refine ⟨"list", _, slot_list_getitem.lookup, ht.isList.typeIs, ?_⟩
  refine wpAny_getItem_list_slice ht.isList hs pl pu .none (by simp) ?_ (by rw [List.size_toArray] <;> omega)
  rw [slicePick_cut, ← hlen]
  refine ⟨.ref s.heap.objs.size, _, I.laid (t' := s.toks) (o := .lst (cutV xs lo hi)) (fun b ob q => Heap.get?_push_of_some _ q) (Nat.le_refl _) ?_, rfl, q _ (I.hok.fresh (Nat.le_refl _))⟩
  exact ⟨Nat.le_trans (cutV_length xs lo hi) hz, _, 0, (r.drop (HT.sIx xs.length 0 lo)).take (HT.sIx xs.length xs.length hi - HT.sIx xs.length 0 lo), Heap.get?_push_size _ rfl⟩
def flatV : V → Bool
  | .non => true
  | .bl _ => true
  | .int _ => true
  | .str _ => true
  | _ => false
def eqV : V → V → Bool
  | .non, .non => true
  | .bl a, .bl b => a == b
  | .bl a, .int b => (if a then 1 else 0) == b
  | .int a, .bl b => a == (if b then 1 else 0)
  | .int a, .int b => a == b
  | .str a, .str b => a == b
  | _, _ => false
theorem eqAt_V {A : Around} {s : Shared} {y x : V} {u v : Value} (ry : RelV y u) (rx : RelV x v) (fy : flatV y = true) (fx : flatV x = true) : SeqAt.EqAt A s u v (eqV y x) := by
  cases y with
  | non =>
    cases ry
    cases x with
    | non => cases rx; exact SeqAt.EqAt.same _
    | bl b => cases rx; exact SeqAt.EqAt.none_bool b
    | int b => obtain ⟨t, rfl⟩ := rx; exact SeqAt.EqAt.none_int b t
    | str b => obtain ⟨t, rfl⟩ := rx; exact SeqAt.EqAt.none_str b t
    | _ => exact absurd (show false = true from fx) Bool.false_ne_true
  | bl a =>
    cases ry
    cases x with
    | non => cases rx; exact SeqAt.EqAt.bool_none a
    | bl b => cases rx; exact SeqAt.EqAt.bool_bool a b
    | int b => obtain ⟨t, rfl⟩ := rx; exact SeqAt.EqAt.bool_int a b t
    | str b => obtain ⟨t, rfl⟩ := rx; exact SeqAt.EqAt.bool_str a b t
    | _ => exact absurd (show false = true from fx) Bool.false_ne_true
  | int a =>
    obtain ⟨t', rfl⟩ := ry
    cases x with
    | non => cases rx; exact SeqAt.EqAt.int_none a t'
    | bl b => cases rx; exact SeqAt.EqAt.int_bool a t' b
    | int b => obtain ⟨t, rfl⟩ := rx; exact SeqAt.EqAt.int_int a t' b t
    | str b => obtain ⟨t, rfl⟩ := rx; exact SeqAt.EqAt.int_str a t' b t
    | _ => exact absurd (show false = true from fx) Bool.false_ne_true
  | str a =>
    obtain ⟨t', rfl⟩ := ry
    cases x with
    | non => cases rx; exact SeqAt.EqAt.str_none a t'
    | bl b => cases rx; exact SeqAt.EqAt.str_bool a t' b
    | int b => obtain ⟨t, rfl⟩ := rx; exact SeqAt.EqAt.str_int a t' b t
    | str b => obtain ⟨t, rfl⟩ := rx; exact SeqAt.EqAt.str_str a t' b t
    | _ => exact absurd (show false = true from fx) Bool.false_ne_true
  | _ => exact absurd (show false = true from fy) Bool.false_ne_true
def eqU (x : V) (u : Value) : Bool := match u with
  | .none => eqV .non x
  | .bool b => eqV (.bl b) x
  | .int i _ => eqV (.int i) x
  | .str z _ => eqV (.str z) x
  | _ => false
theorem eqU_of {x y : V} {u : Value} (r : RelV y u) (f : flatV y = true) : eqU x u = eqV y x := by
  cases y with
  | non => cases r; rfl
  | bl b => cases r; rfl
  | int i => obtain ⟨t, rfl⟩ := r; rfl
  | str z => obtain ⟨t, rfl⟩ := r; rfl
  | _ => exact absurd (show false = true from f) Bool.false_ne_true
theorem any_eqU {x : V} : ∀ {xs : List V} {us : List Value}, Vals xs us → xs.all flatV = true → us.any (eqU x) = xs.any fun y => eqV y x
  | _, _, .nil, _ => rfl
  | y :: xs, u :: us, .cons r t, f => by
    rw [List.all_cons, Bool.and_eq_true] at f
    rw [List.any_cons, List.any_cons, eqU_of r f.1, any_eqU t f.2]
theorem mem_eqAt {A : Around} {s : Shared} {x : V} {v : Value} (rx : RelV x v) (fx : flatV x = true) : ∀ {xs : List V} {us : List Value}, Vals xs us → xs.all flatV = true → ∀ u ∈ us, SeqAt.EqAt A s u v (eqU x u)
  | _, _, .nil, _ => fun u hu => by cases hu
  | y :: xs, u :: us, .cons r t, f => fun u' hu => by
    rw [List.all_cons, Bool.and_eq_true] at f
    rcases List.mem_cons.mp hu with rfl | hu
    · rw [eqU_of r f.1]; exact eqAt_V r rx f.1 fx
    · exact mem_eqAt rx fx t f.2 u' hu
def inV (x : V) (xs : List V) : Bool := xs.any fun y => eqV y x
def rIn (K : PySem.W.Frag) (neg : Bool) : R2 := fun x y H Q => ∃ p xs, y = .ref p ∧ (SqL K H p xs ∨ SqT K H p xs) ∧ flatV x = true ∧ xs.all flatV = true ∧ Q (.bl (if neg then !inV x xs else inV x xs)) H
theorem op_in_seq : OpR X (compareOp .In) (rIn X.K false) := by
  intro pins s σ H x y v u Q I rx ry h
  obtain ⟨p, xs, rfl, hq, fx, fs, q⟩ := h
  cases ry
  rcases hq with hq | hq
  · obtain ⟨its, r, pl, hz⟩ := I.list hq
    refine SeqAt.in_listAt (eqU x) pl.isList (fun w hw => mem_eqAt rx fx r fs w (by simpa using hw)) ⟨.bl _, H, I, rfl, ?_⟩
    rw [show its.toArray.any (eqU x) = its.any (eqU x) by simp, any_eqU r fs]
    exact q
  · obtain ⟨its, r, pl, hz⟩ := I.tuple hq
    refine SeqAt.in_tupleAt (eqU x) pl (fun w hw => mem_eqAt rx fx r fs w (by simpa using hw)) ⟨.bl _, H, I, rfl, ?_⟩
    rw [show its.toArray.any (eqU x) = its.any (eqU x) by simp, any_eqU r fs]
    exact q
theorem call_len_seq : CallR X (.builtin "len") (fun xs H Q => ∃ p ys, xs = [.ref p] ∧ (SqL X.K H p ys ∨ SqT X.K H p ys) ∧ Q (.int ys.length) H) := by
  intro pins s σ H xs us Q I r h
  obtain ⟨p, ys, rfl, hq, q⟩ := h
  obtain ⟨u, rfl, rx⟩ := vals1 r
  cases rx
  have hn := line63
  rcases hq with hq | hq
  · obtain ⟨its, r', pl, hz⟩ := I.list hq
    have hlen := r'.length
    exact Calls.call_len_list pl.isList (by simp only [List.size_toArray] <;> omega) ⟨.int ys.length, H, I.tok _, ⟨s.toks + 1, by rw [List.size_toArray, hlen]⟩, q⟩
  · obtain ⟨its, r', pl, hz⟩ := I.tuple hq
    have hlen := r'.length
    exact len_tuple pl (by simp only [List.size_toArray] <;> omega) ⟨.int ys.length, H, I.tok _, ⟨s.toks + 1, by rw [List.size_toArray, hlen]⟩, q⟩
theorem call_tuple_of : CallR X (.type "tuple") (fun xs H Q => ∃ p ys, xs = [.ref p] ∧ ((SqL X.K H p ys ∧ ∀ l, H l = none → Q (.ref l) (upd H l (.tup ys))) ∨ (SqT X.K H p ys ∧ Q (.ref p) H))) := by
  intro pins s σ H xs us Q I r h
  obtain ⟨p, ys, rfl, h⟩ := h
  obtain ⟨u, rfl, rx⟩ := vals1 r
  cases rx
  rcases h with ⟨hq, q⟩ | ⟨hq, q⟩
  · obtain ⟨its, r', pl, hz⟩ := I.list hq
    have hlen := r'.length
    refine call_tuple_list pl.isList (fun h' kp => ?_) (by simp only [List.size_toArray] <;> omega)
    have I1 : Inv X pins σ H { s with heap := h' } := I.kept (t' := s.toks) kp
    have I2 : Inv X pins σ (upd H h'.objs.size (.tup ys)) { s with heap := h'.push { cls := .type "tuple", data := .seq its.toArray } } :=
      I1.laid (t' := s.toks) (fun b o e => Heap.get?_push_of_some _ e) (Nat.le_refl _) (show ObjOk X.prog X.w _ _ _ (.tup ys) from ⟨hz, its, r', IsTup.new _ _⟩)
    exact ⟨.ref h'.objs.size, _, I2, rfl, q _ (I1.hok.fresh (Nat.le_refl _))⟩
  · obtain ⟨its, r', pl, hz⟩ := I.tuple hq
    exact call_tuple_same pl ⟨.ref p, H, I, rfl, q⟩
def tyV (K : PySem.W.Frag) (T : String) (x : V) (H : Hp) : Prop := match x with
  | .str _ => T = "str"
  | .int _ => T = "int"
  | .ref p => (T = "list" ∧ ∃ xs, SqL K H p xs) ∨ (T = "tuple" ∧ ∃ o, K.lookup p = some o ∧ o.cls = .type "tuple" ∧ o.dict = none) ∨
      (T = "dict" ∧ ((∃ kvs, H p = some (.dK kvs)) ∨ ∃ kvs, H p = some (.dT kvs))) ∨ (T = "set" ∧ ∃ S n, H p = some (.set S n))
  | _ => False
theorem tyV_is {pins : List (Addr × Obj)} {σ : St} {H : Hp} {s : Shared} {T : String} {x : V} {v : Value} (I : Inv X pins σ H s) (r : RelV x v) (ty : tyV X.K T x H) :
    s.TypeIs v T ∧ ∀ a, v = .ref a → ∃ ob, s.heap.get? a = some ob ∧ ob.dict = none := by
  cases x with
  | str z =>
    obtain ⟨t, rfl⟩ := r
    cases (show T = "str" from ty)
    exact ⟨typeIs_str s z t, fun _ e => nomatch e⟩
  | int i =>
    obtain ⟨t, rfl⟩ := r
    cases (show T = "int" from ty)
    exact ⟨typeIs_int s i t, fun _ e => nomatch e⟩
  | ref p =>
    cases r
    rcases ty with ⟨rfl, xs, hq⟩ | ⟨rfl, o, hk, hc, hd⟩ | ⟨rfl, hk⟩ | ⟨rfl, S, n, hk⟩
    · obtain ⟨its, _, pl, _⟩ := I.list hq
      refine ⟨pl.isList.typeIs, fun a e => ?_⟩
      cases e
      obtain ⟨o, n, e, c, hd, _⟩ := pl
      exact ⟨o, e, hd⟩
    · refine ⟨⟨o, I.kIn p o hk, hc⟩, fun a e => ?_⟩
      cases e
      exact ⟨o, I.kIn _ o hk, hd⟩
    · have z : ∃ o, s.heap.get? p = some o ∧ o.ExactDict := by
        rcases hk with ⟨kvs, hk⟩ | ⟨kvs, hk⟩
        · obtain ⟨_, _, _, _, o, _, _, e, ex, _⟩ := I.hok p _ hk
          exact ⟨o, e, ex⟩
        · obtain ⟨_, _, _, _, o, _, _, e, ex, _⟩ := I.hok p _ hk
          exact ⟨o, e, ex⟩
      obtain ⟨o, e, ex⟩ := z
      refine ⟨⟨o, e, ex.1⟩, fun a e2 => ?_⟩
      cases e2
      exact ⟨o, e, ex.2.1⟩
    · obtain ⟨o, _, _, _, e, ex, _⟩ := I.hok p _ hk
      refine ⟨⟨o, e, ex.1⟩, fun a e2 => ?_⟩
      cases e2
      exact ⟨o, e, ex.2.1⟩
  | _ => exact False.elim ty
def tBM (K : PySem.W.Frag) (T : String) (r : V → List V → Hp → VK → Prop) (to : TE) (t : TA) : TE := fun σ H Q => to σ H fun x H1 => tyV K T x H1 ∧ t σ H1 fun xs H2 => r x xs H2 Q
variable {o e : Expr} {es : List Expr} {to : TE} {t : TA} {name : Str} {apos cpos : Pos} {T id : String} {r : V → List V → Hp → VK → Prop}
theorem pe_bm (pa : PlainAttrs T) (slot : Slot T name id) (hty : typeOf (.builtin id) = pure (.type "method_descriptor")) (hm : MtR X id r) (ho : PE X o to) (ha : PA X (e :: es) t)
    (hbase : attributeBase o name X.env (eval o X.env) = eval o X.env := by rfl)
    (hfew : ((backTo cpos (starEach (e :: es) X.env)).all (fun x => !x.1) && (backToKw cpos (keywordEach [] X.env)).all (fun x => x.1.isSome)
      && decide ((e :: es).length + ([] : List Keyword).length + (if ([] : List Keyword).isEmpty then 0 else 1) < 30)) = true := by rfl)
    (hline : (apos.endLine == cpos.line) = true := by rfl) (hs : starEach (e :: es) X.env = (false, eval e X.env) :: starEach es X.env := by rfl) (hplain : (backTo cpos (starEach es X.env)).any (·.1) = false := by rfl) :
    PE X (.Call (.Attribute o name apos) (e :: es) [] cpos) (tBM X.K T r to t) := by
  intro pins s σ H Q I h
  refine wpAny_Call_method_late hbase hfew hline rfl (thn (ho pins s σ H _ I h) fun v s1 ⟨x, H1, I1, r1, ty, q1⟩ => ?_)
  obtain ⟨h1, h2⟩ := tyV_is I1 r1 ty
  refine ⟨T, id, pa, slot, hty, h1, h2, ?_⟩
  have hA := ha cpos pins s1 σ H1 _ I1 q1
  rw [hs] at hA ⊢
  refine Calls.callWith_builtin (by show (false || (backTo cpos (starEach es X.env)).any (·.1)) = false; rw [hplain] <;> rfl) (Calls.evalArgs_plain ?_)
  exact thn hA fun us s2 ⟨vs, H2, I2, r2, q2⟩ => hm pins s2 σ H2 x vs v us Q I2 r1 r2 q2
end
end L2
namespace L2
open PySem PySem.Spec PyProof.Rows
def MtM (X : Cx) (id : String) (r : V → List V → Hp → VK → Prop) : Prop :=
  ∀ (pins : List (Addr × Obj)) (s : Shared) (σ : St) (H : Hp) (x : V) (xs : List V) (v : Value) (us : List Value) (Q : VK), Inv X pins σ H s → RelV x v → Vals xs us → r x xs H Q →
    wpAny (model X.prog X.w) X.A (call (.builtin id) (v :: us)) (EP X pins σ Q) X.xe s
theorem Vals.one : ∀ {x : V} {us : List Value}, Vals [x] us → ∃ u, us = [u] ∧ RelV x u
  | _, _, .cons r .nil => ⟨_, rfl, r⟩
theorem Vals.rep {xs : List V} {us : List Value} (h : Vals xs us) : ∀ k : Nat, Vals (List.replicate k xs).flatten (List.replicate k us).flatten
  | 0 => .nil
  | k + 1 => by
    rw [List.replicate_succ, List.replicate_succ, List.flatten_cons, List.flatten_cons]
    exact Vals.append h (Vals.rep h k)
theorem foldl_rep (its : List Value) : ∀ (k : Nat) (acc : List Value),
    List.foldl (fun x1 x2 => x1 ++ x2) acc.toArray (List.replicate k its.toArray) = (acc ++ (List.replicate k its).flatten).toArray
  | 0, acc => by simp
  | k + 1, acc => by
    have e : acc.toArray ++ its.toArray = (acc ++ its).toArray := by simp
    have e2 : (acc ++ its) ++ (List.replicate k its).flatten = acc ++ (List.replicate (k + 1) its).flatten := by
      rw [List.replicate_succ, List.flatten_cons, List.append_assoc]
    rw [← e2, ← foldl_rep its k (acc ++ its), ← e, List.replicate_succ, List.foldl_cons]
section
variable {X : Cx} {pins : List (Addr × Obj)} {σ : St} {H : Hp} {s : Shared} {l b : Addr} {xs ys zs : List V}
theorem Inv.lset {its its' : List Value} {n : Nat} {f : Array Value → Array Value} {t' : Nat} (I : Inv X pins σ H s) (hH : H l = some (.lst xs))
    (e : s.heap.get? l = some { cls := .type "list", data := .seq its.toArray n }) (hf : f its.toArray = its'.toArray) (hv : Vals ys its') (hz : ys.length ≤ sizeLine) :
    Inv X pins σ (upd H l (.lst ys)) { s with heap := s.heap.update l (Obj.mapSeq f), toks := t' } := by
  have q := PySem.IsL.update e f
  rw [hf] at q
  refine I.write (x := l) (e := l) (by rw [hH]; exact trivial) (.inl rfl) (fun b' u hb hu => (Heap.get?_update_other s.heap (Obj.mapSeq f) (Ne.symm hb)).trans hu) ⟨_, q⟩ ?_
  exact ⟨hz, its', _, hv, q⟩
theorem Inv.lnew {its : List Value} {t' : Nat} (I : Inv X pins σ H s) (hv : Vals ys its) (hz : ys.length ≤ sizeLine) :
    Inv X pins σ (upd H s.heap.objs.size (.lst ys)) { s with heap := s.heap.push { cls := .type "list", data := .seq its.toArray }, toks := t' } :=
  I.laid (fun _ _ q => Heap.get?_push_of_some _ q) (Nat.le_refl _) ⟨hz, its, 0, hv, Heap.get?_push_size _ rfl⟩
theorem Inv.fresh (I : Inv X pins σ H s) : H s.heap.objs.size = none := I.hok.fresh (Nat.le_refl _)
theorem Inv.lstM (I : Inv X pins σ H s) (hH : H l = some (.lst xs)) : xs.length ≤ sizeLine ∧ ∃ (its : List Value) (n : Nat), Vals xs its ∧ xs.length = its.length ∧ s.heap.get? l = some { cls := .type "list", data := .seq its.toArray n } := by
  obtain ⟨z, its, n, r, e⟩ := I.hok l _ hH
  exact ⟨z, its, n, r, r.length, e⟩
theorem notLongL {n : Nat} (h : n ≤ sizeLine) : Builtin.List.listTooLong n = false := by
  unfold Builtin.List.listTooLong
  exact decide_eq_false (by omega)
end
section
variable {X : Cx}
def rAppend : V → List V → Hp → VK → Prop := fun x vs H Q => ∃ l xs y, x = .ref l ∧ vs = [y] ∧ H l = some (.lst xs) ∧ xs.length < sizeLine ∧ Q .non (upd H l (.lst (xs ++ [y])))
theorem mt_append : MtM X "list.append" rAppend := by
  intro pins s σ H x vs v us Q I rx rv h
  obtain ⟨l, xs, y, rfl, rfl, hH, hz, q⟩ := h
  cases rx
  obtain ⟨u, rfl, ru⟩ := rv.one
  obtain ⟨z, its, n, r, hl, e⟩ := I.lstM hH
  refine call_meets F.slot_list_append ⟨_, e, rfl⟩ F.entry_list_append (F.args_list_append_2 _ _) (PySem.list_append l its.toArray n u (by rw [List.size_toArray]; omega)) ⟨e, ?_⟩
  refine ⟨.non, _, I.lset (its' := its ++ [u]) hH e (by simp) (r.append (.cons ru .nil)) ?_, rfl, q⟩
  rw [List.length_append, List.length_singleton]
  omega
def rCat : R2 := fun x y H Q => ∃ l b xs zs, x = .ref l ∧ y = .ref b ∧ H l = some (.lst xs) ∧ H b = some (.lst zs) ∧ xs.length + zs.length ≤ sizeLine ∧ ∀ p, H p = none → Q (.ref p) (upd H p (.lst (xs ++ zs)))
theorem op_cat : OpR X (binaryOp .Add) rCat := by
  intro pins s σ H x y v u Q I rx ry h
  obtain ⟨l, b, xs, zs, rfl, rfl, hH, hB, hz, q⟩ := h
  cases rx
  cases ry
  obtain ⟨z, its, n, r, hl, e⟩ := I.lstM hH
  obtain ⟨z2, its2, n2, r2, hl2, e2⟩ := I.lstM hB
  refine PySem.P.add_list e e2 ?_ (by rw [List.size_toArray, List.size_toArray]; omega)
  have ea : its.toArray ++ its2.toArray = (its ++ its2).toArray := by simp
  rw [ea]
  exact ⟨.ref _, _, I.lnew (t' := s.toks) (r.append r2) (by rw [List.length_append]; omega), rfl, q _ I.fresh⟩
def rRep : R2 := fun x y H Q => ∃ l k xs, x = .ref l ∧ y = .int k ∧ H l = some (.lst xs) ∧ -(2 ^ 63) ≤ k ∧ k < 2 ^ 63 ∧ xs.length * k.toNat ≤ sizeLine ∧
  ∀ p, H p = none → Q (.ref p) (upd H p (.lst (List.replicate k.toNat xs).flatten))
theorem len_rep {α : Type} (xs : List α) (k : Nat) : (List.replicate k xs).flatten.length = k * xs.length := by
  induction k with
  | zero => simp
  | succ k ih => rw [List.replicate_succ, List.flatten_cons, List.length_append, ih, Nat.succ_mul, Nat.add_comm]
theorem op_rep : OpR X (binaryOp .Mult) rRep := by
  intro pins s σ H x y v u Q I rx ry h
  obtain ⟨l, k, xs, rfl, rfl, hH, h1, h2, hz, q⟩ := h
  cases rx
  obtain ⟨t, rfl⟩ := ry
  obtain ⟨z, its, n, r, hl, e⟩ := I.lstM hH
  have hlen : its.toArray.size * k.toNat ≤ sizeLine := by rw [List.size_toArray, ← hl]; exact hz
  have hcap : ¬ its.toArray.size * k.toNat > (2 ^ 63 - 1) / 8 := by
    have : (sizeLine : Nat) ≤ (2 ^ 63 - 1) / 8 := by decide
    omega
  have hfit : ¬ (!Builtin.List.listFitsIndex k) = true := by
    rw [fitsIndex_both h1 h2]
    exact Bool.false_ne_true
  have hlong : ¬ Builtin.List.listTooLong (its.toArray.size * k.toNat) = true := by
    rw [notLongL hlen]
    exact Bool.false_ne_true
  have hnew : List.foldl (fun x1 x2 => x1 ++ x2) #[] (List.replicate (if its.toArray.isEmpty = true then 0 else k.toNat) its.toArray) = (List.replicate k.toNat its).flatten.toArray := by
    have f0 : ∀ m : Nat, List.foldl (fun x1 x2 => x1 ++ x2) #[] (List.replicate m its.toArray) = (List.replicate m its).flatten.toArray := fun m => by
      have := foldl_rep its m []
      rw [List.nil_append] at this
      exact this
    rw [f0]
    cases its with
    | nil => simp
    | cons a r' => rw [if_neg (by simp)]
  refine wpAny_binaryOp_repeat_ref (T := "list") (U := "int") (by decide) ⟨_, e, rfl⟩ (fun s' => typeIs_int s' k t) noFill_list_mul F.fills_int_mul F.slot_int_rmul repeat_list F.slot_int_index.lookup
    (call_meets F.slot_int_rmul (typeIs_int s k t) F.entry_int_rmul (F.args_int_rmul_2 _ _) (int___rmul___int_list k t l its.toArray n)
      ⟨e, rfl, ⟨_, e, rfl⟩, call_meets F.slot_list_mul ⟨_, e, rfl⟩ F.entry_list_mul (F.args_list_mul_2 _ _) (AutoListH.list___mul___list_int_3 l its.toArray n k t hfit hcap hlong) ⟨e, ?_⟩⟩)
  rw [hnew]
  exact ⟨.ref _, _, I.lnew (t' := s.toks) (r.rep k.toNat) (by rw [len_rep, Nat.mul_comm]; exact hz), rfl, q _ I.fresh⟩
end
end L2
namespace Att
open PySem PySem.W PySem.Calls PyProof.Rows
theorem ints_of_wellAll {P : Params} {h : Heap} : ∀ (ns : List Int) (vs : List Value), WellAll P h vs (ns.map WData.int) → IntsAre vs ns := by
  intro ns
  induction ns with
  | nil =>
    intro vs w
    rw [List.map_nil] at w
    cases w
    exact .nil
  | cons n ns ih =>
    intro vs w
    rw [List.map_cons] at w
    cases w with
    | cons a b =>
      cases a
      exact .cons _ _ (ih _ b)
theorem script_of {l : OpenLaw} {n : Nat} (hn : l.most = some n) {P : Params} {h : Heap} {args : List WData} {vals : List Value}
    (hpre : l.row.toRowW.claim.pre args = true) (hwl : WellAll P h vals args) :
    ∃ a vs ns, vals = [Value.ref a] ∧ args = [WData.list (ns.map WData.int)] ∧ h.get? a = some { cls := .type "list", data := .seq vs.toArray } ∧ IntsAre vs ns ∧ ns.length ≤ n := by
  have hsh : WShape.hasAll [] args [.list .int] = true := (pre_splitW hpre).1
  have hc : l.pre.holds [] { args := args } = true := (pre_splitW hpre).2
  obtain ⟨d, r, rfl, h1, h2⟩ := hasAllW_cons hsh
  obtain rfl := hasAllW_nil h2
  obtain ⟨xs, rfl, h3⟩ := hasW_list h1
  obtain ⟨ns, rfl⟩ := items_int h3
  have hlen : ns.length ≤ n := by
    unfold OpenLaw.pre at hc
    have h4 : (WTm.not (.lt (.lit (.int (n : Int))) (.len (.arg 0)))).holds [] { args := [.list (ns.map .int)] } = true := by
      have h4 := (holds_andW hc).1
      rw [hn] at h4
      exact h4
    have h5 := condW_of h4 (w_not (w_lt w_lit (w_len_list (w_arg rfl))))
    rw [List.length_map] at h5
    refine Nat.le_of_not_lt fun q => ?_
    have q' : (n : Int) < ((ns.length : Nat) : Int) := by omega
    first
      | (rw [decide_eq_true q'] at h5; exact absurd h5 (by decide))
      | (simp at h5; omega)
  cases hwl with
  | cons w1 w2 =>
    cases w2
    cases w1 with
    | list ho hall => exact ⟨_, _, ns, rfl, rfl, ho, ints_of_wellAll ns _ hall, hlen⟩
theorem post_true (l : OpenLaw) (args : List WData) : l.row.toRowW.claim.post args (.bool true) args = true :=
  postW_of (r := l.row.toRowW) (X := (true == true))
    (show WShape.has [] (.bool true) .bool = true by first | rfl | decide | simp [WShape.has, WShape.arms, WShape.armsAll])
    (show (WTm.eq .res (.lit (.bool true))).value [] { args := args, res := some (.bool true), after := args } = some (.bool (true == true)) from w_eq_bool (w_res rfl) w_lit) rfl
theorem attach_call {l : OpenLaw} {n : Nat} {q : Program} {loose : List Str} {XP : (Str → Option Value) → Heap → Prop} {YP : World → Heap → Prop} {d : DefRec}
    (hn : l.most = some n) (hdf : d.params.defaults = [])
    (call : ∀ (w : World) (s₀ s₁ : Shared) (mg mb : Str → Option Value) (fa : Addr) (o : Obj) (pm cd doc : Value) (a : Addr) (vs : List Value) (ns : List Int),
      Ground q loose [] XP w s₀ mg mb s₁.heap → YP w s₁.heap →
      s₁.heap.get? fa = some o → o.data = .func (docDef d.name d.params d.body d.scope pm cd doc) → s₁.heap.CodeRec cd d.name → mg d.name = some (.ref fa) →
      s₁.heap.get? a = some { cls := .type "list", data := .seq vs.toArray } → IntsAre vs ns → ns.length ≤ n → s₁.gens = #[] →
      codeAny (model l.prog w) callerA (.call (.ref fa) ⟨[.ref a], []⟩) (fun r s' => r = .ok (.ret (.bool true)) ∧ OldK s₁.heap s'.heap ∧ s'.os = s₁.os ∧ AllBare s'.gens) s₁) :
    WalkO q loose XP YP l.row.toRowW d [] (fun f vs => PySem.call f vs) := by
  intro w s₀ s₁ mg mb G Y fa o pm cd doc dV kV ho hd hcd hD hmg hg args vals as hpre hlay hrd hwl hlo
  obtain rfl : dV = .none := Dflts.none hD hdf
  obtain rfl : kV = .none := Dflts.noKw hD
  obtain ⟨a, vs, ns, rfl, rfl, hobj, hints, hlen⟩ := script_of hn hpre hwl
  refine enter_call (codeAny_mono (call w s₀ s₁ mg mb fa o pm cd doc a vs ns G Y ho (fd_plain hd) hcd hmg hobj hints hlen hg) fun r s' hq => ?_)
  obtain ⟨rfl, h2, h3, h4⟩ := hq
  exact ⟨.inl ⟨.bool true, .bool true, [], rfl, fun _ => rfl, .bool true, post_true l _, fun _ => ⟨List.Pairwise.nil, fun _ hm => (nomatch hm)⟩⟩, h2, h3, h4⟩
end Att
namespace L2
open PySem PySem.Spec PyProof.Rows
theorem vals_ints : ∀ {vs : List Value} {ns : List Int}, IntsAre vs ns → Vals (ns.map V.int) vs
  | _, _, .nil => .nil
  | _, _, .cons n t h => .cons ⟨t, rfl⟩ (vals_ints h)
def Only (H : Hp) : Prop := ∀ b, H b = none ∨ ∃ o xs, H b = some (.frz o (.lst xs))
theorem law_call {P : Program} {w : World} {K : PySem.W.Frag} {mg mb : Str → Option Value} {CX : CXT} {k : Nat} {fa a : Addr} {fd : FuncData} {x : Str} {sp : Sp} {s₁ : Shared} {vs : List Value} {ns : List Int}
    (KX : K.In s₁.heap) (hns : s₁.heap.Ns mainGlobals mg) (hb : s₁.heap.Ns builtinsNs mb) (hbb : ∀ x : Str, x ≠ "__name__" → mb x = bootBuiltins x) (hlim : s₁.heap.NoLimit) (hg : s₁.gens = #[])
    (ha : s₁.heap.get? a = some { cls := .type "list", data := .seq vs.toArray }) (hi : IntsAre vs ns) (hl : ns.length ≤ sizeLine) (hr : Room k callerA)
    (F : ∀ base : Heap, K.In base → base.Ns mainGlobals mg → FnOk P w K mg base CX k fa fd [x] sp) (hbind : ∀ (s : Shared) (u : Value), BindsTo s fd ⟨[u], []⟩ [(x, u)])
    (hsp : ∀ H : Hp, Only H → SqL K H a (ns.map V.int) → sp [.ref a] H (fun v _ => v = .bl true) fun _ _ _ => False)
    (hCX : ∀ H e s', CX [] H s₁ (fun _ _ _ => False) e s' → False) :
    codeAny (model P w) callerA (.call (.ref fa) ⟨[.ref a], []⟩) (fun r s' => r = .ok (.ret (.bool true)) ∧ OldK s₁.heap s'.heap ∧ s'.os = s₁.os ∧ AllBare s'.gens) s₁ := by
  have rv := vals_ints hi
  have lenV := hi.length
  -- from an abstract heap in which nothing but the script may be tracked
  have core : ∀ H : Hp, Only H → SqL K H a (ns.map V.int) → HOk P w H s₁.heap → (∀ b, H b ≠ none → b = a) → (H a ≠ none → K.lookup a = none) →
      codeAny (model P w) callerA (.call (.ref fa) ⟨[.ref a], []⟩) (fun r s' => r = .ok (.ret (.bool true)) ∧ OldK s₁.heap s'.heap ∧ s'.os = s₁.os ∧ AllBare s'.gens) s₁ := by
    intro H hO hS hok hA hK
    have base_of : ∀ {b : Addr} {o : Obj}, s₁.heap.get? b = some o → H b = none → (hidT s₁.heap H).get? b = some o := fun e n => hidT_get e n
    have noA : ∀ {b : Addr} {o : Obj} {es : Array DictEntry} {ep : Nat}, s₁.heap.get? b = some o → o.data = .dict es ep → H b = none := fun {b o es ep} e d => by
      cases q : H b with
      | none => rfl
      | some u =>
        have e' : b = a := hA b (by rw [q]; simp)
        subst e'
        rw [ha] at e; cases e
        have d' : Data.seq vs.toArray _ = Data.dict es ep := d
        cases d'
    have nsK : ∀ {b : Addr} {m : Str → Option Value}, s₁.heap.Ns b m → (hidT s₁.heap H).Ns b m := fun {b m} ⟨o, es, ep, e, d, r⟩ => ⟨o, es, ep, base_of e (noA e d), d, r⟩
    have hKb : K.In (hidT s₁.heap H) := fun b o e => base_of (KX b o e) (by
      cases q : H b with
      | none => rfl
      | some u =>
        have e' : b = a := hA b (by rw [q]; simp)
        subst e'
        rw [hK (by rw [q]; simp)] at e; cases e)
    have hM : Mod K mg (hidT s₁.heap H) := ⟨hKb, nsK hns, ⟨mb, nsK hb, hbb⟩, let ⟨mc, h1, h2⟩ := hlim; ⟨mc, nsK h1, h2⟩⟩
    have e0 : Env0 P w K mg (hidT s₁.heap H) callerA [] s₁ H := ⟨rfl, hM, fun b o e => of_hidT e, Nat.le_of_eq (hidT_size _ _), trivial, fun b hb => absurd (show b ∈ ([] : List Addr) from hb) (by simp), hok, .of_eq hg⟩
    refine codeAny_mono ((F _ hKb (nsK hns)).run callerA [] s₁ H ⟨[.ref a], []⟩ [.ref a] [.ref a] _ _ hr e0 (hbind s₁ (.ref a)) (.cons rfl .nil) (hsp H hO hS)) fun r s' h => ?_
    cases r with
    | error e => exact (hCX H e s' h).elim
    | ok fl =>
      cases fl with
      | next => exact False.elim h
      | brk => exact False.elim h
      | cont => exact False.elim h
      | ret u =>
        obtain ⟨v, H', os, bare, un, hok', r', q⟩ := h
        have q' : v = .bl true := q
        subst q'
        obtain rfl : u = Value.bool true := r'
        refine ⟨rfl, OldK.of_keep fun b o e => ?_, os, bare⟩
        cases q : H b with
        | none => exact un.keep b o e q (by intro z; exact absurd (show b ∈ ([] : List Addr) from z) (by simp)) (by simp)
        | some u =>
          rcases hO b with z | ⟨ob, xs, z⟩
          · rw [q] at z; cases z
          · have z2 := un.frzs b ob _ z
            obtain ⟨e1, _⟩ := hok b _ z
            obtain ⟨e2, _⟩ := hok' b _ z2
            rw [e] at e1; cases e1
            exact e2
  cases hk : K.lookup a with
  | some o =>
    -- the script is one of the module's own objects
    have e := KX a o hk
    rw [ha] at e
    cases e
    refine core (fun _ => none) (fun _ => .inl rfl) (.inr ⟨_, vs.toArray, _, hk, rfl, rfl, rfl, by rw [List.size_toArray, lenV]; exact hl, by simpa using rv⟩) (fun b u z => by have z' : (none : Option HO) = some u := z; cases z') (fun b z => absurd rfl z) fun z => absurd rfl z
  | none =>
    refine core (fun b => if b = a then some (.frz { cls := .type "list", data := .seq vs.toArray } (.lst (ns.map V.int))) else none) (fun b => ?_) (.inl (.inr ⟨{ cls := .type "list", data := .seq vs.toArray }, if_pos rfl⟩)) (fun b u z => ?_) (fun b z => ?_) fun _ => hk
    · by_cases hb : b = a
      · exact .inr ⟨_, _, if_pos hb⟩
      · exact .inl (if_neg hb)
    · by_cases hb : b = a
      · have z' := (if_pos hb).symm.trans z
        cases z'
        subst hb
        exact ⟨ha, by rw [List.length_map]; exact hl, vs, _, rv, ha⟩
      · have z' := (if_neg hb).symm.trans z
        cases z'
    · by_cases hb : b = a
      · exact hb
      · exact absurd (if_neg hb) z
end L2
namespace L2
open PySem PySem.Spec PyProof.Rows
abbrev KOf {K : PySem.W.Frag} {h : Heap} (_ : K.In h) : PySem.W.Frag := K
theorem walk_of {l : PySem.W.OpenLaw} {n k : Nat} {q : Program} {loose : List Str} {XP : (Str → Option Value) → Heap → Prop} {YP : World → Heap → Prop} {d : DefRec} {K : Params → PySem.W.Frag} {CX : World → CXT} {sp : World → Sp} {x : Str}
    (hn : l.most = some n) (hn2 : n ≤ sizeLine) (hdf : d.params.defaults = []) (hr : Room k callerA)
    (hY : ∀ (w : World) (h : Heap), YP w h → (K w.params).In h)
    (F : ∀ (w : World) (mg : Str → Option Value) (fa : Addr) (h : Heap), (K w.params).In h → h.Ns mainGlobals mg → mg d.name = some (.ref fa) →
      ∃ fd : FuncData, (∀ (s : Shared) (u : Value), BindsTo s fd ⟨[u], []⟩ [(x, u)]) ∧
        ∀ base : Heap, (K w.params).In base → base.Ns mainGlobals mg → FnOk l.prog w (K w.params) mg base (CX w) k fa fd [x] (sp w))
    (hsp : ∀ (w : World) (H : Hp) (a : Addr) (ns : List Int), ns.length ≤ n → Only H → SqL (K w.params) H a (ns.map V.int) → sp w [.ref a] H (fun v _ => v = .bl true) fun _ _ _ => False)
    (hCX : ∀ (w : World) (H : Hp) (s : Shared) (e : Value) (s' : Shared), CX w [] H s (fun _ _ _ => False) e s' → False) :
    PySem.W.WalkO q loose XP YP l.row.toRowW d [] (fun f vs => PySem.call f vs) := by
  refine Att.attach_call hn hdf fun w s₀ s₁ mg mb fa o pm cd doc a vs ns G Y ho hd hcd hmg hobj hints hlen hg => ?_
  have KX := hY w _ Y
  obtain ⟨fd, hb, hF⟩ := F w mg fa _ KX G.T.g hmg
  exact law_call KX G.T.g G.T.b G.T.builtins G.T.nolimit hg hobj hints (Nat.le_trans hlen hn2) hr hF hb (fun H hO hS => hsp w H a ns hlen hO hS) fun H e s' => hCX w H s₁ e s'
end L2
namespace L2
open PySem PySem.Spec PyProof.Rows
def inClass (s : Stmt) (j : Nat) : Stmt := match s with
  | .ClassDef _ _ _ body _ _ _ _ _ _ _ => body.getD j (.Pass ⟨0, 0, 0, 0⟩)
  | _ => .Pass ⟨0, 0, 0, 0⟩
def defArgs (s : Stmt) : Arguments := match s with
  | .FunctionDef _ a _ _ _ _ _ _ _ _ => a
  | _ => { posonlyargs := [], args := [], vararg := none, kwonlyargs := [], kw_defaults := [], kwarg := none, defaults := [] }
def defBody (s : Stmt) : List Stmt := match s with
  | .FunctionDef _ _ b _ _ _ _ _ _ _ => b
  | _ => []
def defScope (s : Stmt) : Scope := match s with
  | .FunctionDef _ _ _ _ _ _ sc _ _ _ => sc
  | _ => { kind := .function, names := [], isGenerator := false, isCoroutine := false }
abbrev E0 : XK := fun _ _ _ => False
structure Fun (K : PySem.W.Frag) (x qual : Str) (st : Stmt) (f : Addr) (fd : FuncData) : Prop where
  ex : ∃ (oc : Value) (od : Option Addr) (kV doc pm : Value) (an : Option Addr) (cdv ct : Value) (osl : Array (Option Value)),
    fd = PySem.W.fnOf x qual (defArgs st) (defBody st) (defScope st) .none kV doc pm an cdv ct ∧ K.lookup f = some ⟨oc, od, .func fd, osl⟩ ∧ PySem.W.codeIn K cdv qual = true
  kp : PySem.W.keepIn K (.ref f) = true
section
variable {P : Program} {w : World} {K : PySem.W.Frag} {mg : Str → Option Value} {base : Heap}
theorem Fun.binds {x qual : Str} {st : Stmt} {f : Addr} {fd : FuncData} {ps : List Str} (F : Fun K x qual st f fd)
    (h : ∀ (kV doc pm : Value) (an : Option Addr) (cdv ct : Value) (us : List Value), us.length = ps.length → bindArgs (PySem.W.fnOf x qual (defArgs st) (defBody st) (defScope st) .none kV doc pm an cdv ct) ⟨us, []⟩ = pure (ps.zip us)) : Binds K fd ps [] := by
  obtain ⟨oc, od, kV, doc, pm, an, cdv, ct, osl, rfl, lk, hcd⟩ := F.ex
  exact .all (h kV doc pm an cdv ct)
theorem fun_mk {x qual : Str} {st : Stmt} {f : Addr} {oc : Value} {od an : Option Addr} {osl : Array (Option Value)} {kV doc pm cdv ct : Value} (l : K.lookup f = some ⟨oc, od, .func (PySem.W.fnOf x qual (defArgs st) (defBody st) (defScope st) .none kV doc pm an cdv ct), osl⟩)
    (c : PySem.W.codeIn K cdv qual = true) (k : PySem.W.keepIn K (.ref f) = true) : Fun K x qual st f (PySem.W.fnOf x qual (defArgs st) (defBody st) (defScope st) .none kV doc pm an cdv ct) := ⟨⟨oc, od, kV, doc, pm, an, cdv, ct, osl, rfl, l, c⟩, k⟩
end
theorem small1000 {n : Nat} (h : n ≤ 1000) : n < sizeLine := Nat.lt_of_le_of_lt h (by decide)
section
variable {X : Cx}
theorem pv (i : Nat) {x : Str} {pos : Pos} (hN : X.N[i]? = some x := by rfl) (hv : Vis X.env.scope x := by first | exact Or.inl rfl | exact Or.inr (Or.inl rfl) | exact Or.inr (Or.inr rfl)) (hd : (x == ("__debug__" : Str)) = false := by decide)
    (hcd : (x == ("__classdict__" : Str)) = false := by decide) : PE X (.Name x pos) (tVar i) := pe_var hN hv hd hcd
end
theorem iteF {A B : Prop} (h : B) : if false = true then A else B := by
  rw [if_neg Bool.false_ne_true]
  exact h
theorem iteT {A B : Prop} (h : A) : if true = true then A else B := by
  rw [if_pos rfl]
  exact h
theorem ite2 {c A B : Prop} [Decidable c] (h1 : c → A) (h2 : ¬ c → B) : if c then A else B := by
  by_cases h : c
  · rw [if_pos h]
    exact h1 h
  · rw [if_neg h]
    exact h2 h
def Same (H H' : Hp) : Prop := ∀ b o, H b = some o → H' b = some o
theorem Same.refl (H : Hp) : Same H H := fun _ _ h => h
theorem Same.trans {H H1 H2 : Hp} (a : Same H H1) (b : Same H1 H2) : Same H H2 := fun c o h => b c o (a c o h)
theorem Same.free {H H' : Hp} (e : Same H H') {l : Addr} (h : H' l = Option.none) : H l = Option.none := by
  cases q : H l with
  | none => rfl
  | some o =>
    rw [e l o q] at h
    cases h
theorem Same.seq {K : PySem.W.Frag} {H H' : Hp} {a : Addr} {xs : List V} (e : Same H H') (h : SqL K H a xs) : SqL K H' a xs := by
  rcases h with (h | ⟨o, h⟩) | h
  · exact .inl (.inl (e _ _ h))
  · exact .inl (.inr ⟨o, e _ _ h⟩)
  · exact .inr h
end L2
namespace L2
open PySem PySem.Spec PyProof.Rows
section
variable {X : Cx}
def CDivW (_ j : Int) : Prop := j ≠ 0 ∧ j.natAbs.log2 < 9000
theorem op_fdivW : OpR X (binaryOp .FloorDiv) (rI CDivW fun i j => .int (i.fdiv j)) := opI fun _ _ _ _ _ _ _ hc q => floordiv_int hc.1 q (.inl (PyProof.noPylong_of_log2 hc.2))
theorem bits_le {i : Int} {k : Nat} (h : i.natAbs < 2 ^ k) : Builtin.Int.intBits i ≤ k := by
  unfold Builtin.Int.intBits
  split
  · exact Nat.zero_le _
  · rename_i z
    have z' : i.natAbs ≠ 0 := fun e => z (beq_iff_eq.mpr (Int.natAbs_eq_zero.mp e))
    exact (Nat.log2_lt z').mpr h
def CMulW (i j : Int) : Prop := i.natAbs < 2 ^ 10000 ∧ j.natAbs < 2 ^ 10000
theorem CMulW.ok {i j : Int} (h : CMulW i j) : IntMulOk i j := .of_bits (Nat.le_trans (bits_le h.1) (by decide)) (Nat.le_trans (bits_le h.2) (by decide))
theorem op_mulW : OpR X (binaryOp .Mult) (rI CMulW fun i j => .int (i * j)) := opI fun _ _ _ _ _ _ _ hc q => mul_int q hc.ok
end
mutual
inductive DV (K : PySem.W.Frag) (H : Hp) : V → PyData → Prop
  | non : DV K H .non .none
  | bl (b : Bool) : DV K H (.bl b) (.bool b)
  | int (i : Int) : DV K H (.int i) (.int i)
  | str (x : Str) : DV K H (.str x) (.str x)
  | lst {a : Addr} {xs : List V} {ds : List PyData} : SqL K H a xs → DVs K H xs ds → DV K H (.ref a) (.list ds)
  | tup {a : Addr} {xs : List V} {ds : List PyData} : SqT K H a xs → DVs K H xs ds → DV K H (.ref a) (.tuple ds)
  | dct {a : Addr} {kvs : List (Key × V)} : H a = some (.dK kvs) → DV K H (.ref a) (.dict [])
inductive DVs (K : PySem.W.Frag) (H : Hp) : List V → List PyData → Prop
  | nil : DVs K H [] []
  | cons {v : V} {vs : List V} {d : PyData} {ds : List PyData} : DV K H v d → DVs K H vs ds → DVs K H (v :: vs) (d :: ds)
end
section
variable {X : Cx} {pins : List (Addr × Obj)} {σ : St} {H : Hp} {s : Shared}
mutual
theorem DV.reads (I : Inv X pins σ H s) : ∀ {v : V} {d : PyData}, DV X.K H v d → d.canLay0 = true → ∀ {u : Value}, RelV v u → ∃ as, Reads s.heap u d as
  | _, _, .non, _, _, r => by cases r; exact ⟨_, .none⟩
  | _, _, .bl b, _, _, r => by cases r; exact ⟨_, .bool b⟩
  | _, _, .int i, _, _, r => by obtain ⟨t, rfl⟩ := r; exact ⟨_, .int i t⟩
  | _, _, .str x, _, _, r => by obtain ⟨t, rfl⟩ := r; exact ⟨_, .str x t⟩
  | _, _, .lst h q, c, _, r => by
    cases r
    obtain ⟨its, rv, pl, _⟩ := I.list h
    obtain ⟨as, ra⟩ := DVs.reads I q c rv
    obtain ⟨o, ho, hc, n, hd⟩ := id pl.isList
    exact ⟨_, .list ho hc hd ra⟩
  | _, _, .tup h q, c, _, r => by
    cases r
    obtain ⟨its, rv, pl, _⟩ := I.tuple h
    obtain ⟨as, ra⟩ := DVs.reads I q c rv
    obtain ⟨o, ho, hc, n, hd⟩ := id pl
    exact ⟨_, .tuple ho hc hd ra⟩
  | _, _, .dct h, c, _, r => nomatch c
theorem DVs.reads (I : Inv X pins σ H s) : ∀ {vs : List V} {ds : List PyData}, DVs X.K H vs ds → PyData.canLayAll0 ds = true → ∀ {us : List Value}, Vals vs us → ∃ as, ReadsAll s.heap us ds as
  | _, _, .nil, _, _, r => by cases r; exact ⟨_, .nil⟩
  | _, _, .cons h q, c, _, r => by
    rw [PyData.canLayAll0] at c
    cases r with
    | cons r1 r2 =>
      obtain ⟨a1, z1⟩ := DV.reads I h (Bool.and_eq_true_iff.mp c).1 r1
      obtain ⟨a2, z2⟩ := DVs.reads I q (Bool.and_eq_true_iff.mp c).2 r2
      exact ⟨_, .cons z1 z2⟩
end
end
section
variable {X : Cx}
def rEqD (K : PySem.W.Frag) : R2 := fun x y H Q => ∃ d e, DV K H x d ∧ DV K H y e ∧ SeqAt.shaped d = true ∧ SeqAt.shaped e = true ∧ Q (.bl (PyData.eqv d e)) H
def rNeD (K : PySem.W.Frag) : R2 := fun x y H Q => ∃ d e, DV K H x d ∧ DV K H y e ∧ SeqAt.shaped d = true ∧ SeqAt.shaped e = true ∧ Q (.bl (!PyData.eqv d e)) H
theorem op_eqD (hu : X.A.units + 64 < cLine) : OpR X (compareOp .Eq) (rEqD X.K) := by
  intro pins s σ H x y v u Q I rx ry h
  obtain ⟨d, e, hd, he, sd, se, q⟩ := h
  obtain ⟨a1, r1⟩ := hd.reads I (SeqAt.canLay_of_shaped sd) rx
  obtain ⟨a2, r2⟩ := he.reads I (SeqAt.canLay_of_shaped se) ry
  exact eq_dataH r1 r2 sd se hu ⟨.bl _, H, I, rfl, q⟩
theorem op_neD (hu : X.A.units + 64 < cLine) : OpR X (compareOp .NotEq) (rNeD X.K) := by
  intro pins s σ H x y v u Q I rx ry h
  obtain ⟨d, e, hd, he, sd, se, q⟩ := h
  obtain ⟨a1, r1⟩ := hd.reads I (SeqAt.canLay_of_shaped sd) rx
  obtain ⟨a2, r2⟩ := he.reads I (SeqAt.canLay_of_shaped se) ry
  exact ne_dataH r1 r2 sd se hu ⟨.bl _, H, I, rfl, q⟩
end
section
variable {X : Cx} {pos : Pos}
theorem Inv.big2 {pins : List (Addr × Obj)} {σ : St} {H : Hp} {s : Shared} (I : Inv X pins σ H s) : sysModules < s.heap.objs.size := by
  have h : mainGlobals < s.heap.objs.size := (I.mod.glob.keeps I.bk).lt
  exact Nat.lt_trans (by decide) h
def tDNew : TE := fun _ H Q => ∀ p, H p = none → Q (.ref p) (upd H p (.dK []))
theorem pe_dnew : PE X (.Dict [] [] pos) tDNew := fun pins s σ H Q I h =>
  wpAny_Dict_empty ⟨.ref s.heap.objs.size, _, I.laid (a := s.heap.objs.size) (o := .dK []) (t' := s.toks) (fun _ _ q => Heap.get?_push_of_some _ q) (Nat.le_refl _)
    ⟨Nat.zero_le _, beq_eq_false_iff_ne.mpr (Ne.symm (Nat.ne_of_lt I.big2)), [], .nil, Heap.DictOf.new s.heap⟩, rfl, h _ (I.hok.fresh (Nat.le_refl _))⟩
end
structure TopFn (K : PySem.W.Frag) (mg : Str → Option Value) (x : Str) (st : Stmt) : Prop where
  ex : ∃ (f : Addr) (fd : FuncData), Fun K x x st f fd ∧ mg x = some (.ref f)
theorem same_new {H : Hp} {p : Addr} (h : H p = none) (o : HO) : Same H (upd H p o) := fun b u q => by rw [upd_ne (ne_of_none q h)]; exact q
end L2
namespace L2
open PySem PySem.Spec PyProof.Rows
theorem bt_int : bootBuiltins "int" = some (.type "int") := by decide +kernel
theorem bt_bool : bootBuiltins "bool" = some (.type "bool") := by decide +kernel
theorem bt_tuple : bootBuiltins "tuple" = some (.type "tuple") := by decide +kernel
theorem bt_list : bootBuiltins "list" = some (.type "list") := by decide +kernel
theorem bt_str : bootBuiltins "str" = some (.type "str") := by decide +kernel
theorem bt_len : bootBuiltins "len" = some (.builtin "len") := by decide +kernel
theorem bt_abs : bootBuiltins "abs" = some (.builtin "abs") := by decide +kernel
theorem bt_all : bootBuiltins "all" = some (.builtin "all") := by decide +kernel
theorem bt_isinstance : bootBuiltins "isinstance" = some (.builtin "isinstance") := by decide +kernel
def bsub (t T : String) : Option Bool := if (Value.type t == Value.type T) = true then some true else if PySem.W.kitMeta T = true then (fastBuiltinMro t).map (·.contains (Value.type T)) else none
theorem kit_b {K : PySem.W.Frag} {t T : String} {b : Bool} (h : bsub t T = some b) : PySem.W.kitOne K (.type t) (.type T) = some b := h
theorem topFn_mk {K : PySem.W.Frag} {h : Heap} {mg : Str → Option Value} {x : Str} {st : Stmt} {f : Addr} {oc : Value} {od an : Option Addr} {sl : Array (Option Value)} {kV dc pm cd ct : Value} (X : K.In h) (G : h.Ns mainGlobals mg)
    (a : PySem.W.nsIn K mainGlobals x = some (some (.ref f))) (l : K.lookup f = some ⟨oc, od, .func (PySem.W.fnOf x x (defArgs st) (defBody st) (defScope st) .none kV dc pm an cd ct), sl⟩) (c : PySem.W.codeIn K cd x = true) (k : PySem.W.keepIn K (.ref f) = true) : TopFn K mg x st :=
  ⟨f, _, fun_mk l c k, PySem.W.mg_of X G a⟩
section
variable {X : Cx} {es : List Expr} {te : TE} {t : TA}
theorem pa_const {c : Const} {j : Nat} {p : Pos} (ha : PE X (.Constant c j p) te) (hr : PA X es t) : PA X (.Constant c j p :: es) (tCons te t) := pa_cons ha hr (by rfl)
theorem pa_name {x : Str} {p : Pos} (ha : PE X (.Name x p) te) (hr : PA X es t) : PA X (.Name x p :: es) (tCons te t) := pa_cons ha hr (by rfl)
theorem pa_list {xs : List Expr} {p : Pos} (ha : PE X (.List xs p) te) (hr : PA X es t) : PA X (.List xs p :: es) (tCons te t) := pa_cons ha hr (by rfl)
theorem pa_tuple {xs : List Expr} {k : Nat} {p : Pos} (ha : PE X (.Tuple xs k p) te) (hr : PA X es t) : PA X (.Tuple xs k p :: es) (tCons te t) := pa_cons ha hr (by rfl)
theorem pa_dict {ks : List (Option Expr)} {vs : List Expr} {p : Pos} (ha : PE X (.Dict ks vs p) te) (hr : PA X es t) : PA X (.Dict ks vs p :: es) (tCons te t) := pa_cons ha hr (by rfl)
theorem pa_call {f : Expr} {as : List Expr} {kw : List Keyword} {p : Pos} (ha : PE X (.Call f as kw p) te) (hr : PA X es t) : PA X (.Call f as kw p :: es) (tCons te t) := pa_cons ha hr (by rfl)
theorem pa_bin {a : Expr} {o : Operator} {b : Expr} {p : Pos} (ha : PE X (.BinOp a o b p) te) (hr : PA X es t) : PA X (.BinOp a o b p :: es) (tCons te t) := pa_cons ha hr (by rfl)
theorem pa_un {o : UnaryOp} {a : Expr} {p : Pos} (ha : PE X (.UnaryOp o a p) te) (hr : PA X es t) : PA X (.UnaryOp o a p :: es) (tCons te t) := pa_cons ha hr (by rfl)
theorem pa_cmp {a : Expr} {os : List CmpOp} {bs : List Expr} {p : Pos} (ha : PE X (.Compare a os bs p) te) (hr : PA X es t) : PA X (.Compare a os bs p :: es) (tCons te t) := pa_cons ha hr (by rfl)
theorem pa_sub {a b : Expr} {p : Pos} (ha : PE X (.Subscript a b p) te) (hr : PA X es t) : PA X (.Subscript a b p :: es) (tCons te t) := pa_cons ha hr (by rfl)
end
end L2
namespace L2
open PySem PySem.Spec PyProof.Rows
theorem dict_mf (o : Obj) (f : Array Value → Array Value) : (o.mapFields f).dict = o.dict := by
  obtain ⟨c, d, dt, sl⟩ := o; cases dt <;> rfl
inductive Chn (h : Heap) : Value → Prop
  | none : Chn h .none
theorem Chn.mono {h h' : Heap} (k : ∀ b o vs, h.get? b = some o → o.data = .fields vs → ∃ o' vs', h'.get? b = some o' ∧ o'.data = .fields vs' ∧ vs'[2]? = vs[2]?) {v : Value} (c : Chn h v) : Chn h' v := by
  cases c
  exact .none
def Trc (base : Heap) (e : Addr) (c : Value) (d : Option Addr) (fl : Value) (h : Heap) : Prop :=
  ∃ (o oT : Obj) (vs ts : Array Value) (T : Addr), h.get? e = some o ∧ o.cls = c ∧ o.dict = d ∧ o.data = .fields vs ∧ vs[1]? = some (.ref T) ∧ base.get? T = none ∧ T ≠ e ∧ h.get? T = some oT ∧ oT.data = .fields ts ∧ ts[3]? = some fl ∧ ∃ cx, vs[2]? = some cx ∧ Chn h cx
def FlyD (base : Heap) (l : List Env) (e : Addr) (c : Value) (d : Option Addr) (fl : Value) (h : Heap) : Prop :=
  base.StaysIn h ∧ base.get? e = none ∧ h.FunFrames base l ∧ Trc base e c d fl h
theorem FlyD.there {base h : Heap} {l : List Env} {e : Addr} {c : Value} {d : Option Addr} {fl : Value} (x : FlyD base l e c d fl h) : ∃ ob, h.get? e = some ob ∧ ob.cls = c ∧ ob.dict = d ∧ ∃ vs, ob.data = .fields vs := by
  obtain ⟨_, _, _, o, _, vs, _, _, h1, h2, h3, h4, _⟩ := x
  exact ⟨o, h1, h2, h3, vs, h4⟩
theorem FlyD.pop {base h : Heap} {env : Env} {l : List Env} {e : Addr} {c : Value} {d : Option Addr} {fl : Value} (x : FlyD base (env :: l) e c d fl h) : FlyD base l e c d fl h := ⟨x.1, x.2.1, x.2.2.1.2.2, x.2.2.2⟩
section
variable {M : Model} {A : Around} {E : Value → Shared → Prop} {s : Shared} {base : Heap} {env : Env} {outer l : List Env} {L e : Addr} {c : Value} {d : Option Addr}
theorem note_new {o : Obj} {vs : Array Value} {head : Value} {hn : Bool} {Q : Unit → Shared → Prop} (hfr : A.frames = some (env :: outer)) (hf : env.frame = some L) (st : base.StaysIn s.heap) (ne : base.get? e = none)
    (fr : s.heap.FunFrames base (env :: outer)) (he : s.heap.get? e = some o) (hd : o.data = .fields vs) (hz : 1 < vs.size) (hcx : ∃ cx, vs[2]? = some cx ∧ Chn s.heap cx)
    (h : ∀ h', FlyD base (env :: outer) e o.cls o.dict (rawInt L) h' → s.heap.UpToSlots h' → Q () { s with heap := h' }) :
    wpAny M A (frameOf env >>= fun a => entryPlaceOf L hn >>= fun pl => EntryCells.newEntry head a .none (rawInt L) .none pl >>= fun b => setField (.ref e) 1 b) Q E s := by
  have eL : e ∉ (env :: outer).filterMap (·.frame) := fun m => by
    obtain ⟨_, u, hu, nf⟩ := fr.mem m
    rw [he] at hu; cases hu; exact nf vs hd
  refine wpAny_bind (wpAny_frameOf_fun hfr fr hf fun h1 so => wpAny_bind (wpAny_entryPlaceOf fun pl hp => ?_))
  have he1 : h1.get? e = some o := (so.2.1 e eL).trans he
  have Te : h1.objs.size ≠ e := Nat.ne_of_gt (Heap.lt_size he1)
  have st1 : base.StaysIn h1 := fun b u q => (so.2.1 b fun m => by rw [(fr.mem m).1] at q; cases q).trans (st b u q)
  have key : ∀ (oT : Obj) (ts : Array Value), oT.data = .fields ts → ts[3]? = some (rawInt L) → wpAny M A (setField (.ref e) 1 (.ref h1.objs.size)) Q E { s with heap := h1.push oT } := by
    intro oT ts dT t3
    have he2 := Heap.get?_push_of_some (h := h1) oT he1
    have hT2 : (h1.push oT).get? h1.objs.size = some oT := Heap.get?_push_size h1 (Obj.isFreed_of_fields dT)
    have oth : ∀ b u, b ≠ e → h1.get? b = some u → ((h1.push oT).update e (Obj.mapFields (·.setIfInBounds 1 (Value.ref h1.objs.size)))).get? b = some u := fun b u n q => by
      rw [Heap.get?_update_other _ _ (Ne.symm n)]; exact Heap.get?_push_of_some _ q
    have nrec : ∀ b u, s.heap.get? b = some u → (∀ xs, u.data ≠ .fields xs) → b ≠ e := fun b u q nf z => by
      subst z; rw [he] at q; cases q; exact nf vs hd
    refine wpAny_setField he2 hd hz (h _ ⟨fun b u q => oth b u (fun z => by rw [z, ne] at q; cases q) (st1 b u q), ne, fr.of_keeps fun b u q nf => ?_, _, oT, _, ts, h1.objs.size,
      Heap.get?_update_self _ he2 (Obj.isFreed_of_fields (Obj.data_mapFields hd _)), Obj.cls_mapFields _ _, dict_mf _ _, Obj.data_mapFields hd _, by simp [hz], st1.fresh, Te, ?_, dT, t3, ?_⟩ fun b u q nf => ?_)
    · obtain ⟨sl, z⟩ := so.2.2 b u q
      exact ⟨_, oth b _ (nrec b u q nf) z, rfl⟩
    · rw [Heap.get?_update_other _ _ (Ne.symm Te)]; exact hT2
    · obtain ⟨cx, c1, c2⟩ := hcx
      refine ⟨cx, by rw [Array.getElem?_setIfInBounds_ne (by decide)]; exact c1, c2.mono fun b u us q d => ?_⟩
      by_cases hb : b = e
      · subst hb
        rw [he] at q
        cases q
        rw [hd] at d
        cases d
        exact ⟨_, _, Heap.get?_update_self _ he2 (Obj.isFreed_of_fields (Obj.data_mapFields hd _)), Obj.data_mapFields hd _, Array.getElem?_setIfInBounds_ne (by decide)⟩
      · have nb : b ∉ (env :: outer).filterMap (·.frame) := fun m => by
          obtain ⟨_, u', hu, nf⟩ := fr.mem m
          rw [q] at hu; cases hu; exact nf us d
        exact ⟨u, us, oth b u hb ((so.2.1 b nb).trans q), d, rfl⟩
    · obtain ⟨sl, z⟩ := so.2.2 b u q
      exact ⟨sl, oth b _ (nrec b u q nf) z⟩
  unfold EntryCells.newEntry newFields; refine wpAny_bind (wpAny_newObj_type (key _ _ rfl ?_) (hp.sizeOk5 _ _ _ _ _))
  rcases hp with rfl | ⟨_, _, _, _, _, _, _, rfl⟩ <;> simp
theorem fl_none {fl : Value} {Q : Unit → Shared → Prop} (x : FlyD base l e c d fl s.heap) (h : ∀ h', FlyD base l e c d .none h' → s.heap.UpToSlots h' → Q () { s with heap := h' }) :
    wpAny M A (setFlight (.ref e) none) Q E s := by
  obtain ⟨st, ne, fr, o, oT, vs, ts, T, he, hc, hdd, hd, h1, nT, Te, hT, dT, h3, cx, c1, c2⟩ := x
  have z3 : 3 < ts.size := (Array.getElem?_eq_some_iff.mp h3).1
  have oth : ∀ b, b ≠ T → (s.heap.update T (Obj.mapFields (·.setIfInBounds 3 Value.none))).get? b = s.heap.get? b := fun b n => Heap.get?_update_other _ _ (Ne.symm n)
  have nrec : ∀ b u, s.heap.get? b = some u → (∀ xs, u.data ≠ .fields xs) → b ≠ T := fun b u q nf z => by
    subst z; rw [hT] at q; cases q; exact nf ts dT
  have kT : Chn (s.heap.update T (Obj.mapFields (·.setIfInBounds 3 Value.none))) cx := c2.mono fun b u us q d => by
    by_cases hb : b = T
    · subst hb
      rw [hT] at q
      cases q
      exact ⟨_, _, Heap.get?_update_self _ hT (Obj.isFreed_of_fields (Obj.data_mapFields d _)), Obj.data_mapFields d _, Array.getElem?_setIfInBounds_ne (by decide)⟩
    · exact ⟨u, us, (oth b hb).trans q, d, rfl⟩
  unfold setFlight; refine wpAny_bind (wpAny_field he hd h1 ?_)
  rw [if_pos (show (Value.ref T != Value.none) = true by simp)]
  refine wpAny_setField hT dT z3 (h _ ⟨fun b u q => (oth b fun z => by rw [z, nT] at q; cases q).trans (st b u q), ne, fr.of_keeps fun b u q nf => ⟨u, (oth b (nrec b u q nf)).trans q, rfl⟩,
    o, _, vs, _, T, (oth e (Ne.symm Te)).trans he, hc, hdd, hd, h1, nT, Te, Heap.get?_update_self _ hT (Obj.isFreed_of_fields (Obj.data_mapFields dT _)), Obj.data_mapFields dT _, by simp [z3], cx, c1, kT⟩ fun b u q nf => ⟨u.slots, (oth b (nrec b u q nf)).trans q⟩)
theorem note_next {Q : Unit → Shared → Prop} (hfr : A.frames = some (env :: outer)) (hf : env.frame = some L) (x : FlyD base (env :: outer) e c d .none s.heap)
    (h : ∀ h', FlyD base (env :: outer) e c d (rawInt L) h' → s.heap.UpToSlots h' → Q () { s with heap := h' }) : wpAny M A (noteFrame (.ref e) env) Q E s := by
  obtain ⟨st, ne, fr, o, oT, vs, ts, T, he, hc, hdd, hd, h1, nT, Te, hT, dT, h3, cx, c1, c2⟩ := x
  subst hc hdd
  have oth : ∀ b, b ≠ T → (s.heap.update T (Obj.mapFields (·.setIfInBounds 3 Value.none))).get? b = s.heap.get? b := fun b n => Heap.get?_update_other _ _ (Ne.symm n)
  have nrec : ∀ b u, s.heap.get? b = some u → (∀ xs, u.data ≠ .fields xs) → b ≠ T := fun b u q nf z => by
    subst z; rw [hT] at q; cases q; exact nf ts dT
  have kT : Chn (s.heap.update T (Obj.mapFields (·.setIfInBounds 3 Value.none))) cx := c2.mono fun b u us q d => by
    by_cases hb : b = T
    · subst hb
      rw [hT] at q
      cases q
      exact ⟨_, _, Heap.get?_update_self _ hT (Obj.isFreed_of_fields (Obj.data_mapFields d _)), Obj.data_mapFields d _, Array.getElem?_setIfInBounds_ne (by decide)⟩
    · exact ⟨u, us, (oth b hb).trans q, d, rfl⟩
  unfold noteFrame; simp only [hf]; refine wpAny_bind (wpAny_field he hd h1 ?_)
  rw [if_pos (show (Value.ref T != Value.none) = true by simp)]; refine wpAny_bind (wpAny_field hT dT h3 ?_)
  rw [if_neg (show ¬ ((Value.none == rawInt L) = true) by simp [rawInt])]; refine wpAny_bind (wpAny_setField hT dT (Array.getElem?_eq_some_iff.mp h3).1 ?_)
  refine note_new (s := { s with heap := s.heap.update T (Obj.mapFields (·.setIfInBounds 3 Value.none)) }) hfr hf (fun b u q => (oth b fun z => by rw [z, nT] at q; cases q).trans (st b u q)) ne (fr.of_keeps fun b u q nf => ⟨u, (oth b (nrec b u q nf)).trans q, rfl⟩)
    ((oth e (Ne.symm Te)).trans he) hd (Array.getElem?_eq_some_iff.mp h1).1 ⟨cx, c1, kT⟩ fun h' f up => h h' f fun b u q nf => up b u ((oth b (nrec b u q nf)).trans q) nf
theorem note_first {o : Obj} {vs : Array Value} {Q : Unit → Shared → Prop} (hfr : A.frames = some (env :: outer)) (hf : env.frame = some L) (st : base.StaysIn s.heap) (ne : base.get? e = none)
    (fr : s.heap.FunFrames base (env :: outer)) (he : s.heap.get? e = some o) (hd : o.data = .fields vs) (h1 : vs[1]? = some .none) (hcx : ∃ cx, vs[2]? = some cx ∧ Chn s.heap cx)
    (h : ∀ h', FlyD base (env :: outer) e o.cls o.dict (rawInt L) h' → s.heap.UpToSlots h' → Q () { s with heap := h' }) : wpAny M A (noteFrame (.ref e) env) Q E s := by
  unfold noteFrame; simp only [hf]; refine wpAny_bind (wpAny_field he hd h1 ?_)
  rw [if_neg (by decide)]
  exact note_new hfr hf st ne fr he hd (Array.getElem?_eq_some_iff.mp h1).1 hcx h
theorem leave_first {o : Obj} {vs : Array Value} {Q : Unit → Shared → Prop} (hfr : A.frames = some (env :: outer)) (hf : env.frame = some L) (st : base.StaysIn s.heap) (ne : base.get? e = none)
    (fr : s.heap.FunFrames base (env :: outer)) (he : s.heap.get? e = some o) (hd : o.data = .fields vs) (h1 : vs[1]? = some .none) (hcx : ∃ cx, vs[2]? = some cx ∧ Chn s.heap cx)
    (h : ∀ h', FlyD base outer e o.cls o.dict .none h' → s.heap.UpToSlots h' → Q () { s with heap := h' }) : wpAny M A (leaving env (.ref e)) Q E s :=
  wpAny_bind (note_first hfr hf st ne fr he hd h1 hcx fun h1 f1 u1 => fl_none (s := { s with heap := h1 }) f1 fun h2 f2 u2 => h h2 f2.pop (u1.trans u2))
theorem leave_next {Q : Unit → Shared → Prop} (hfr : A.frames = some (env :: outer)) (hf : env.frame = some L) (x : FlyD base (env :: outer) e c d .none s.heap)
    (h : ∀ h', FlyD base outer e c d .none h' → s.heap.UpToSlots h' → Q () { s with heap := h' }) : wpAny M A (leaving env (.ref e)) Q E s :=
  wpAny_bind (note_next hfr hf x fun h1 f1 u1 => fl_none (s := { s with heap := h1 }) f1 fun h2 f2 u2 => h h2 f2.pop (u1.trans u2))
end
end L2
namespace L2
open PySem PySem.Spec PyProof.Rows
def ExcAt (a C : Addr) (h : Heap) : Prop := ∃ o, h.get? a = some o ∧ o.cls = .ref C
theorem ObjOk.some_of {P : Program} {w : World} {H : Hp} {h : Heap} {a : Addr} {o : HO} (x : ObjOk P w H h a o) : ∃ u, h.get? a = some u := by
  cases o with
  | lst xs => obtain ⟨_, _, _, _, e⟩ := x; exact ⟨_, e⟩
  | tup xs => obtain ⟨_, _, _, p⟩ := x; obtain ⟨o, e, _⟩ := p; exact ⟨_, e⟩
  | dK kvs => obtain ⟨_, _, _, _, o, _, _, e, _⟩ := x; exact ⟨_, e⟩
  | dT kvs => obtain ⟨_, _, _, _, o, _, _, e, _⟩ := x; exact ⟨_, e⟩
  | set S n => obtain ⟨o, _, _, _, e, _⟩ := x; exact ⟨_, e⟩
  | ins C dx fs => obtain ⟨_, _, _, e, _⟩ := x; exact ⟨_, e⟩
  | own y => obtain ⟨_, e⟩ := x; exact ⟨_, e⟩
  | xd fs => obtain ⟨_, ⟨_, _, _, e, _⟩, _⟩ := x; exact ⟨_, e⟩
  | rng lo hi => obtain ⟨_, _, _, e⟩ := x; exact ⟨_, e⟩
  | frz ob u => obtain ⟨e, _⟩ := x; exact ⟨_, e⟩
  | tbl ps => exact ⟨_, (show h.get? a = some _ from x)⟩
  | met f y => exact ⟨_, (show h.get? a = some _ from x)⟩
  | ext φ => obtain ⟨_, ⟨_, e⟩, _⟩ := x; exact ⟨_, e⟩
theorem HOk.none_of {P : Program} {w : World} {H : Hp} {h : Heap} {a : Addr} (x : HOk P w H h) (e : h.get? a = none) : H a = none := by
  cases q : H a with
  | none => rfl
  | some o =>
    obtain ⟨u, z⟩ := (x a o q).some_of
    rw [e] at z
    cases z
def CX1 (P : Program) (w : World) : CXT := fun outer H s E e s' => ∃ (a C : Addr) (d : Option Addr) (H' : Hp) (B : Heap), e = .ref a ∧ s'.os = s.os ∧ AllBare s'.gens ∧
  (∀ h'' : Heap, B.StaysIn h'' → s'.heap.UpToSlots h'' → Un (frs outer) [] H H' s.heap h'' ∧ HOk P w H' h'') ∧ FlyD B outer a (.ref C) d .none s'.heap ∧ H' a = none ∧ s.heap.get? a = none ∧ E (.ref C) d H'
structure BodyCx (X : Cx) (E : XK) : Prop where
  stk : X.stack = X.env :: X.outer
  fr : X.env.frame = some X.env.locals
  ex : X.ex = []
  xe : X.xe = fun e s' => wpAny (model X.prog X.w) X.A (leaving X.env e) (fun _ s'' => CX1 X.prog X.w X.outer X.H₀ X.s₀ E e s'') (fun e' s'' => CX1 X.prog X.w X.outer X.H₀ X.s₀ E e' s'') s'
section
variable {X : Cx} {pins : List (Addr × Obj)} {σ : St} {H : Hp} {s : Shared}
theorem mem_stack {E : XK} (Bd : BodyCx X E) {b : Addr} : b ∈ frs X.stack ↔ b = X.env.locals ∨ b ∈ frs X.outer := by
  rw [Bd.stk]
  show b ∈ List.filterMap (·.frame) (X.env :: X.outer) ↔ _
  rw [List.filterMap_cons, Bd.fr]
  exact List.mem_cons
theorem clo_of {E : XK} (Bd : BodyCx X E) (I : Inv X pins σ H s) {h1 h2 : Heap} (k : ∀ b o, s.heap.get? b = some o → h1.get? b = some o) (up : h1.UpToSlots h2) (h'' : Heap)
    (st : (PySem.W.hideAll s.heap (frs X.stack)).StaysIn h'') (up2 : h2.UpToSlots h'') : Un (frs X.outer) [] X.H₀ H X.s₀.heap h'' ∧ HOk X.prog X.w H h'' := by
  have inB : ∀ b o, s.heap.get? b = some o → b ∉ frs X.stack → h''.get? b = some o := fun b o e n => st b o (PySem.W.hideAll_get _ e n)
  have sl : ∀ b o, s.heap.get? b = some o → b ∈ frs X.stack → ∃ sl, h''.get? b = some { o with slots := sl } := fun b o e m => by
    obtain ⟨_, o', ho', hnf⟩ := I.stack.mem m
    rw [e] at ho'
    cases ho'
    exact (up.trans up2) b o (k b o e) hnf
  have nx : ∀ b : Addr, b ∉ X.ex := fun b z => by rw [Bd.ex] at z; cases z
  have neL : ∀ b o, X.s₀.heap.get? b = some o → b ≠ X.env.locals := fun b o e => Nat.ne_of_lt (Nat.lt_of_lt_of_le (Heap.lt_size e) I.ok.above)
  have any : ∀ b o, s.heap.get? b = some o → ∃ o', h''.get? b = some o' := fun b o e => by
    by_cases m : b ∈ frs X.stack
    · obtain ⟨z, q⟩ := sl b o e m
      exact ⟨_, q⟩
    · exact ⟨_, inB b o e m⟩
  refine ⟨⟨fun b o e n hb _ => ?_, fun b o e n hb _ => ?_, fun b o e n _ => I.base.free b o e n (nx b), fun b o e _ => ?_, I.base.tups, I.base.frzs, I.base.tbls⟩, fun a o e => ?_⟩
  · exact inB b o (I.base.keep b o e n hb (nx b)) fun m => (mem_stack Bd).mp m |>.elim (neL b o e) hb
  · obtain ⟨z, q⟩ := I.base.slot b o e n hb (nx b)
    obtain ⟨z', q'⟩ := sl b _ q ((mem_stack Bd).mpr (.inr hb))
    exact ⟨z', q'⟩
  · obtain ⟨o', q⟩ := I.base.there b o e (nx b)
    exact any b o' q
  · refine (I.hok a o e).stay (fun b u hc q => inB b u q fun m => ?_) (fun _ q => q) fun _ _ q => q
    have z := I.stkFree b m
    rcases hc with rfl | hc
    · rw [z] at e; cases e
    · rw [z] at hc; cases hc
theorem inv_behind {H' : Hp} {h'' : Heap} {s' : Shared} (I : Inv X pins σ H s) (ho : s'.os = s.os) (hg : AllBare s'.gens) (u : Un (frs X.stack) [] H H' s.heap h'' ∧ HOk X.prog X.w H' h'') : Inv X pins σ H' { s' with heap := h'' } :=
  I.call' (s' := { s' with heap := h'' }) (ch := []) ho u.1 u.2 hg fun b z => nomatch z
theorem new0 (I : Inv X pins σ H s) (nx : ∀ b : Addr, b ∉ X.ex) {a : Addr} (e : s.heap.get? a = none) : X.s₀.heap.get? a = none := by
  cases q : X.s₀.heap.get? a with
  | none => rfl
  | some o =>
    obtain ⟨o', z⟩ := I.base.there a o q (nx a)
    rw [e] at z
    cases z
theorem passes1 {E : XK} (Bd : BodyCx X E) : Passes (CX1 X.prog X.w) X E := by
  intro pins σ H s e s' I h
  obtain ⟨a, C, t, H', B, rfl, os, bare, clo, fly, na, nw, q⟩ := h
  rw [Bd.xe]
  have hfr : X.A.frames = some (X.env :: X.outer) := by rw [← Bd.stk]; exact I.ok.frames
  have fly' : FlyD B (X.env :: X.outer) a (.ref C) t .none s'.heap := by rw [← Bd.stk]; exact fly
  refine leave_next hfr Bd.fr fly' fun h' f1 up => ?_
  have nx : ∀ b : Addr, b ∉ X.ex := fun b z => by rw [Bd.ex] at z; cases z
  have J0 : ∀ h'' : Heap, B.StaysIn h'' → h'.UpToSlots h'' → Inv X pins σ H' { s' with heap := h'' } := fun h'' st up2 => inv_behind I os bare (clo h'' st (up.trans up2))
  have os0 : s'.os = X.s₀.os := os.trans I.os
  refine ⟨a, C, t, H', B, rfl, os0, bare, fun h'' st up2 => ?_, f1, na, new0 I nx nw, q⟩
  have J := J0 h'' st up2
  have u := J.base
  rw [Bd.ex] at u
  exact ⟨u, J.hok⟩
end
theorem exc_obj {K : PySem.W.Frag} {h₀ : Heap} {C : Addr} {bmB : List Value} {newId : String} (X : K.In h₀) (q : PySem.W.excIn K C bmB newId = true) :
    ∃ bm N nm q bs hdct sn sub ab col dd k0 k1 k2 k3 k5 mN, h₀.get? C = some (excClassObj nm q C N bs bm hdct sn sub ab col dd k0 k1 k2 k3 k5 newId) ∧ h₀.Ns N mN ∧ mN "__init__" = none ∧ OwnTail h₀ bmB bm := by
  unfold PySem.W.excIn at q
  split at q
  · rename_i dd cd sl ho
    split at q
    · rename_i C' bm k0 k1 k2 k3 n k5 hm hs
      simp only [Bool.and_eq_true, beq_iff_eq, Bool.not_eq_true'] at q
      obtain ⟨⟨⟨⟨⟨rfl, rfl⟩, hdel⟩, ht⟩, hok⟩, hni⟩ := q
      obtain ⟨nm, bs, mro, ns, qn, hd, sn, sub, ab, col, del⟩ := cd
      dsimp only at hm hdel hok hni
      subst hm hdel
      have hsl : sl = #[k0, k1, k2, k3, some (.builtin n), k5] := by
        obtain ⟨l⟩ := sl
        simp only at hs
        rw [hs]
      subst hsl
      exact ⟨bm, ns, nm, qn, bs, hd, sn, sub, ab, col, dd, k0, k1, k2, k3, k5, _, X _ _ ho, .of_isNs (PySem.W.isNs_of_in X hok), PySem.W.nsMap_none_of_in X hok hni, PySem.W.tail_of_in X ht⟩
    · cases q
  · cases q
structure ExcCls (K : PySem.W.Frag) (mg : Str → Option Value) (x : Str) (C : Addr) : Prop where
  mg : mg x = some (.ref C)
  ob : PySem.W.excIn K C [.type "ValueError", .type "Exception", .type "BaseException", .type "object"] "ValueError.__new__" = true
section
variable {X : Cx} {x : Str} {C : Addr} {e₀ : Expr} {t : TA} {np cpos pos : Pos}
def tRaise (E : XK) (C : Addr) (t : TA) : TS := fun _ σ H => t σ H fun vs H1 => vs.length ≤ sizeLine ∧ E (.ref C) none H1
theorem ps_raise {E : XK} (Bd : BodyCx X E) (hc : X.calm = true) (O : ExcCls X.K X.mg x C) (ha : PA X [e₀] t) (hg : Gl X x := by rfl) (hdb : (x == ("__debug__" : Str)) = false := by decide)
    (he : starEach [e₀] X.env = [(false, eval e₀ X.env)] := by rfl) :
    PS X (.Raise (some (.Call (.Name x np) [e₀] [] cpos)) none pos) (tRaise E C t) := by
  intro pins s σ H D I h
  obtain ⟨bm, N, nm, qn, bs, hdct, sn, sub, ab, col, dd, k0, k1, k2, k3, k5, mN, hC, hN, hni, TL⟩ := exc_obj I.ok.mod.kin O.ob
  have hbase : bm.contains (.type "BaseException") = true := TL.hasType (X := "BaseException") (by decide +kernel)
  have hpl : (backTo cpos (starEach [e₀] X.env)).any (·.1) = false := by rw [he]; rfl
  refine wpAny_Raise_call_subT (nm := nm) (q := qn) (N := N) (bs := bs) (hdct := hdct) (sn := sn) (sub := sub) (ab := ab) (col := col) (dd := dd) (k0 := k0) (k1 := k1) (k2 := k2) (k3 := k3) (k5 := k5) F.excBase_ValueError hbase (I.ok.hd hc) hpl hni (ld_glob I hg O.mg ⟨rfl, ?_⟩ hdb)
  have h1 := ha cpos pins s σ H _ I h
  rw [he] at h1 ⊢
  refine Calls.evalArgs_plain (thn h1 fun us s2 ⟨vs, H2, I2, r, hl, q⟩ => ⟨rfl, by rw [← r.length]; exact hl, I2.bk _ _ hC, hN.keeps I2.bk, TL.keeps I2.bk, fun h' e hm => ?_⟩)
  rw [Bd.xe]
  have hfr : X.A.frames = some (X.env :: X.outer) := by rw [← Bd.stk]; exact I.ok.frames
  have hin : ∀ env ∈ X.stack, ∀ b, env.frame = some b → b ∈ frs X.stack := fun env he b hb => List.mem_filterMap.mpr ⟨env, he, hb⟩
  have ff : s2.heap.FunFrames (PySem.W.hideAll s2.heap (frs X.stack)) (X.env :: X.outer) := by
    have z := PySem.W.funFrames_hide I2.stack hin
    rw [← Bd.stk]
    exact z
  obtain ⟨t0, he0, _, _⟩ := hm.there
  have ne0 : (PySem.W.hideAll s2.heap (frs X.stack)).get? e = none := by
    cases q0 : (PySem.W.hideAll s2.heap (frs X.stack)).get? e with
    | none => rfl
    | some o => have z := PySem.W.of_hideAll _ q0; rw [hm.new] at z; cases z
  refine leave_first (s := { s2 with heap := h' }) hfr Bd.fr (fun b o q => hm.keeps b o (PySem.W.of_hideAll _ q)) ne0 (ff.of_keeps fun b o q _ => ⟨o, hm.keeps b o q, rfl⟩) he0 rfl rfl ⟨_, rfl, .none⟩ fun h3 fly up => ?_
  refine ⟨e, C, none, H2, _, rfl, ?_, I2.bare, fun h'' st up2 => clo_of Bd I2 hm.keeps up h'' st up2, fly, I2.hok.none_of hm.new, new0 I2 (fun b z => by rw [Bd.ex] at z; cases z) hm.new, q⟩
  exact I2.os
end
end L2
namespace L2
open PySem PySem.Spec PyProof.Rows
structure RoomB (c : Bool) (k : Nat) (A : Around) : Prop where
  hd : c = true → A.handled = none
  dp : A.depth + 3 * k + 5 < recursionLimit
  un : A.units + 16 * k + 200 < cLine
theorem RoomB.mono {c : Bool} {j k : Nat} {A : Around} (r : RoomB c k A) (h : j ≤ k) : RoomB c j A := ⟨r.hd, by have := r.dp; omega, by have := r.un; omega⟩
theorem RoomB.deeper {c : Bool} {k : Nat} {A : Around} (r : RoomB c (k + 1) A) (env : Env) : RoomB c k (A.deeper env) :=
  ⟨r.hd, by have := r.dp; show A.depth + 1 + 3 * k + 5 < _; omega, by have := r.un; show A.units + 3 + 16 * k + 200 < _; omega⟩
theorem RoomB.depth {c : Bool} {k : Nat} {A : Around} (r : RoomB c k A) : A.depth < recursionLimit := by have := r.dp; omega
theorem RoomB.units {c : Bool} {k : Nat} {A : Around} (r : RoomB c k A) : A.units + 64 < cLine := by have := r.un; omega
theorem RoomB.mark {c : Bool} {k : Nat} {A : Around} (r : RoomB c k A) (v : Option Value) : RoomB false k (A.mark v) := ⟨fun z => (nomatch z), r.dp, r.un⟩
theorem Room.b {k : Nat} {A : Around} (r : Room k A) : RoomB true k A := ⟨fun _ => r.hd, r.dp, r.un⟩
structure FnB (P : Program) (w : World) (K : PySem.W.Frag) (mg : Str → Option Value) (base : Heap) (c : Bool) (k : Nat) (f : Addr) (fd : FuncData) (ps : List Str) (sp : Sp) : Prop where
  len : ∀ vs H Q E, sp vs H Q E → vs.length = ps.length
  run : ∀ (A : Around) (outer : List Env) (s : Shared) (H : Hp) (args : Args) (us : List Value) (vs : List V) (Q : VK) (E : XK), RoomB c k A → Env0 P w K mg base A outer s H → BindsTo s fd args (ps.zip us) → Vals vs us → sp vs H Q E →
    codeAny (model P w) A (.call (.ref f) args) (CR (CX1 P w) outer P w H s Q E) s
theorem FnB.ok {P : Program} {w : World} {K : PySem.W.Frag} {mg : Str → Option Value} {base : Heap} {k : Nat} {f : Addr} {fd : FuncData} {ps : List Str} {sp : Sp} (F : FnB P w K mg base true k f fd ps sp) : FnOk P w K mg base (CX1 P w) k f fd ps sp :=
  ⟨F.len, fun A outer s H args us vs Q E hr => F.run A outer s H args us vs Q E hr.b⟩
def cxB (c : Bool) (P : Program) (w : World) (K : PySem.W.Frag) (mg : Str → Option Value) (base : Heap) (N : List Str) (qual : Str) (scope : Scope) (f : Addr) (cd : Value) (A : Around) (outer : List Env) (s : Shared) (H : Hp) (E : XK) : Cx :=
  { cxOf (CX1 P w) P w K mg base N qual scope f cd A outer s H E with calm := c }
theorem bodyB {c : Bool} {P : Program} {w : World} {K : PySem.W.Frag} {mg : Str → Option Value} {base : Heap} {N : List Str} {qual : Str} {scope : Scope} {f : Addr} {cd : Value} {A : Around} {outer : List Env} {s : Shared} {H : Hp} {E : XK} :
    BodyCx (cxB c P w K mg base N qual scope f cd A outer s H E) E := ⟨rfl, rfl, rfl, rfl⟩
theorem inv_startB {c : Bool} {P : Program} {w : World} {K : PySem.W.Frag} {mg : Str → Option Value} {base : Heap} {N ps : List Str} {qual : Str} {scope : Scope} {f : Addr} {cd : Value} {A : Around} {outer : List Env} {s s1 : Shared} {H : Hp} {E : XK} {us : List Value} {vs : List V}
    (S : FnScope N ps scope) (hd : c = true → A.handled = none) (e0 : Env0 P w K mg base A outer s H) (hl : vs.length = ps.length) (r : Vals vs us)
    (x : InCallC s s.heap.objs.size (bindL (envOfC qual scope s.heap.objs.size f cd).kindOf (ps.zip us) fun _ => none) (cellsFrom (s.heap.objs.size + 1) scope.names []) (bindC (envOfC qual scope s.heap.objs.size f cd).kindOf (ps.zip us) fun _ => none) s1) :
    Inv (cxB c P w K mg base N qual scope f cd A outer s H E) [] (start N vs) H s1 := by
  have hpl : ps.length ≤ N.length := by have := congrArg List.length S.pre; rw [List.length_take] at this; omega
  obtain ⟨h1, tk, rfl, hk⟩ := x.done
  have noA : ∀ b : Addr, b ∉ (cxB c P w K mg base N qual scope f cd A outer s H E).ex := fun b z => absurd (show b ∈ ([] : List Addr) from z) (by simp)
  refine ⟨⟨e0.mod, S.kind, rfl, rfl, Nat.le_refl _, fun y z c h1 h2 => ?_, fun y hy => ?_, fun y c _ h => ?_, fun z => hd z, Around.frames_deeper e0.frames, .inr ⟨rfl, rfl⟩, fun b z => absurd z (noA b), e0.bs, e0.bsz, fun b _ _ => noA b, fun b z => absurd z (noA b), e0.funs, e0.frf⟩,
    rfl, e0.bare, Un.kept hk, ⟨_, x.toInCall.ns, fun i y v h1 h2 h3 => ?_⟩, fun y c h => ⟨_, x.cell y c h⟩, e0.hok.fresh (Nat.le_refl _), fun y c h => ?_, fun p hp => absurd (show p ∈ ([] : List (Addr × Obj)) from hp) (by simp), e0.hok.kept hk, ?_⟩
  · exact name_of_addr x.apart (PySem.mem_of_lookup h1) (PySem.mem_of_lookup h2)
  · have hy : scope.names.lookup y = some .cell ∨ scope.names.lookup y = some .free := hy
    rcases hy with hy | hy
    · exact cell_has hy
    · exact absurd rfl (S.nofree _ (PySem.mem_of_lookup hy))
  · exact Nat.le_of_lt (x.above y c (PySem.mem_of_lookup h))
  · have hi : i < vs.length := by
      unfold start at h2
      by_cases hi : i < vs.length
      · exact hi
      · rw [List.getElem?_append_right (by simpa using hi)] at h2
        rw [List.getElem?_replicate] at h2
        split at h2 <;> cases h2
    have ha : vs[i]? = some v := by
      unfold start at h2
      rw [List.getElem?_append_left (by simpa using hi), List.getElem?_map] at h2
      cases e : vs[i]? with
      | none => rw [e] at h2; cases h2
      | some a => rw [e] at h2; cases h2; rfl
    obtain ⟨u, hu, rv⟩ := r.get ha
    have hp : ps[i]? = some y := by
      rw [← S.pre, List.getElem?_take_of_lt (by omega)]; exact h1
    have ndP : ps.Nodup := by rw [← S.pre]; exact S.nd.sublist (List.take_sublist _ _)
    refine ⟨u, rv, ?_⟩
    rcases S.par y (List.mem_of_getElem? hp) with k | k
    · exact .inl ⟨k, bindL_get ndP hp hu k⟩
    · obtain ⟨c, e⟩ := cell_has (n := s.heap.objs.size + 1) k
      refine .inr ⟨.inl k, c, e, ?_⟩
      have q := x.cell y c e
      rw [bindC_get ndP hp hu (by show scope.names.lookup y ≠ _; rw [k]; decide)] at q
      exact q
  · exact e0.hok.fresh (Nat.le_of_lt (x.above y c (PySem.mem_of_lookup h)))
  · unfold start
    show _ = N.length
    rw [List.length_append, List.length_map, List.length_replicate]
    omega
theorem fnB_of {c : Bool} {P : Program} {w : World} {K : PySem.W.Frag} {mg : Str → Option Value} {base : Heap} {k : Nat} {f : Addr} {name qual : Str} {params : Arguments} {body : List Stmt} {scope : Scope} {dV kV doc pm cdv ct oc : Value} {an od : Option Addr}
    {osl : Array (Option Value)} {N ps : List Str} {sp : Sp} (lk : K.lookup f = some ⟨oc, od, .func (PySem.W.fnOf name qual params body scope dV kV doc pm an cdv ct), osl⟩) (hcd : PySem.W.codeIn K cdv qual = true) (S : FnScope N ps scope)
    (len : ∀ vs H Q E, sp vs H Q E → vs.length = ps.length)
    (hbody : ∀ (A : Around) (outer : List Env) (s : Shared) (H : Hp) (vs : List V) (Q : VK) (E : XK), RoomB c k (A.deeper (envOfC qual scope s.heap.objs.size f cdv)) → sp vs H Q E →
      ∃ t, PSs (cxB c P w K mg base N qual scope f cdv A outer s H E) body t ∧ t { nx := fun _ H' => Q .non H', rt := Q } (start N vs) H) :
    FnB P w K mg base c (k + 1) f (PySem.W.fnOf name qual params body scope dV kV doc pm an cdv ct) ps sp := by
  refine ⟨len, fun A outer s H args us vs Q E hr e0 hb r hsp => ?_⟩
  have hl := len _ _ _ _ hsp
  have KX : K.In s.heap := e0.mod.kin.keeps fun b o e => (e0.bs b o e).1
  have lim : s.heap.NoLimit := e0.mod.nolimit.keeps fun b o e => (e0.bs b o e).1
  have hkind : ∀ y ∈ ps.zip us, scope.names.lookup y.1 = some .local ∨ (scope.names.lookup y.1 = some .cell ∧ ((cellsFrom (s.heap.objs.size + 1) scope.names []).lookup y.1).isSome = true) := fun ⟨n, v⟩ hy => by
    rcases S.par n (List.of_mem_zip hy).1 with q | q
    · exact .inl q
    · exact .inr ⟨q, PySem.W.cellsFrom_some _ _ _ (.inl q)⟩
  refine codeAny_call_function hr.depth (KX _ _ lk) rfl S.co S.gen rfl (PySem.W.codeRec_of KX hcd) (hb _ _ _ _ ?_)
  refine wpAny_newFunctionEnv_cells S.kind hkind fun env he s1 x => ?_
  subst he
  refine ⟨lim.keeps x.toInCall.keep, codeAny_func ?_⟩
  obtain ⟨t, ht, hq⟩ := hbody A outer s H vs Q E (hr.deeper _) hsp
  have I : Inv (cxB c P w K mg base N qual scope f cdv A outer s H E) [] (start N vs) H s1 := inv_startB S hr.hd e0 hl r x
  refine wpAny_mono (ht [] s1 (start N vs) H _ I hq) (fun fl s' hs => ?_) fun e s' hs => hs
  have fin : ∀ {σ' : St} {H' : Hp} {v : V} {u : Value}, Inv (cxB c P w K mg base N qual scope f cdv A outer s H E) [] σ' H' s' → RelV v u → Q v H' → CE outer P w H s Q u s' :=
    fun {σ' H' v u} J rv q => ⟨v, H', J.os, J.bare, J.base, J.hok, rv, q⟩
  cases fl with
  | ret u =>
    obtain ⟨v, σ', H', J, rv, q⟩ := hs
    exact fin J rv q
  | next =>
    obtain ⟨σ', H', J, q⟩ := hs
    exact fin (v := V.non) (u := Value.none) J rfl q
  | brk =>
    obtain ⟨_, _, _, q⟩ := hs
    exact False.elim q
  | cont =>
    obtain ⟨_, _, _, q⟩ := hs
    exact False.elim q
structure CalB (P : Program) (w : World) (K : PySem.W.Frag) (mg : Str → Option Value) (base : Heap) (c : Bool) (k : Nat) (x : Str) (ps : List Str) (sp : Sp) : Prop where
  ex : ∃ (f : Addr) (fd : FuncData), FnB P w K mg base c k f fd ps sp ∧ mg x = some (.ref f) ∧ PySem.W.keepIn K (.ref f) = true ∧ Binds K fd ps []
theorem TopFn.calB {c : Bool} {P : Program} {w : World} {K : PySem.W.Frag} {mg : Str → Option Value} {base : Heap} {x : Str} {st : Stmt} {N ps : List Str} {k : Nat} {sp : Sp} (T : TopFn K mg x st) (S : FnScope N ps (defScope st))
    (hb : ∀ (kV doc pm : Value) (an : Option Addr) (cdv ct : Value) (us : List Value), us.length = ps.length → bindArgs (PySem.W.fnOf x x (defArgs st) (defBody st) (defScope st) .none kV doc pm an cdv ct) ⟨us, []⟩ = pure (ps.zip us))
    (len : ∀ vs H Q E, sp vs H Q E → vs.length = ps.length)
    (hbody : ∀ (f : Addr) (cdv : Value) (A : Around) (outer : List Env) (s : Shared) (H : Hp) (vs : List V) (Q : VK) (E : XK), RoomB c k (A.deeper (envOfC x (defScope st) s.heap.objs.size f cdv)) → sp vs H Q E →
      ∃ t, PSs (cxB c P w K mg base N x (defScope st) f cdv A outer s H E) (defBody st) t ∧ t { nx := fun _ H' => Q .non H', rt := Q } (start N vs) H) : CalB P w K mg base c (k + 1) x ps sp := by
  obtain ⟨f, fd, F, hm⟩ := T.ex
  obtain ⟨oc, od, kV, doc, pm, an, cdv, ct, osl, rfl, l, cd⟩ := id F.ex
  exact ⟨f, _, fnB_of l cd S len (hbody f cdv), hm, F.kp, F.binds hb⟩
theorem pass01 {P : Program} {w : World} {X : Cx} : Passes (CX1 P w) X E0 := fun _ _ _ _ _ _ _ h => by
  obtain ⟨_, _, _, _, _, _, _, _, _, _, _, _, q⟩ := h
  exact q.elim
section
variable {X : Cx} {c : Bool} {k : Nat} {ps : List Str} {sp : Sp} {x : Str} {p pos : Pos} {e : Expr} {es : List Expr} {t : TA} {E : XK}
theorem run_fnB {pins : List (Addr × Obj)} {σ : St} {H : Hp} {s : Shared} {Q : VK} {us : List Value} {vs : List V} {f : Addr} {fd : FuncData} {E' : Value → Shared → Prop} (F : FnB X.prog X.w X.K X.mg X.base c k f fd ps sp) (hr : RoomB c k X.A) (hb : Binds X.K fd ps [])
    (I : Inv X pins σ H s) (r : Vals vs us) (h : sp (vs ++ []) H Q E) (hx : ∀ e s', CX1 X.prog X.w X.stack H s E e s' → E' e s') : wpAny (model X.prog X.w) X.A (call (.ref f) us) (EP X pins σ Q) E' s := by
  have r2 : Vals (vs ++ []) (us ++ []) := r.append .nil
  have hl : (us ++ []).length = ps.length := by rw [← r2.length]; exact F.len _ _ _ _ h
  refine wpAny_call (codeAny_mono (F.run X.A X.stack s H ⟨us, []⟩ (us ++ []) (vs ++ []) Q E hr I.env0 (hb s us I.kIn hl) r2 h) fun r s' hq => ?_)
  cases r with
  | error e => exact hx e s' hq
  | ok fl =>
    cases fl with
    | ret u => exact I.after hq
    | next => exact False.elim hq
    | brk => exact False.elim hq
    | cont => exact False.elim hq
theorem pe_cB (C : CalB X.prog X.w X.K X.mg X.base c k x ps sp) (hr : RoomB c k X.A) (hx : Passes (CX1 X.prog X.w) X E) (ha : PA X (e :: es) t) (hg : Gl X x := by rfl) (hdb : (x == ("__debug__" : Str)) = false := by decide)
    (he : starEach (e :: es) X.env = (false, eval e X.env) :: starEach es X.env := by rfl) (hpl : (backTo pos (starEach es X.env)).any (·.1) = false := by rfl) :
    PE X (.Call (.Name x p) (e :: es) [] pos) (tCall sp [] E t) := by
  obtain ⟨f, fd, F, hm, hk, hb⟩ := C.ex
  intro pins s σ H Q I h
  refine wpAny_Call_Name_kw (ld_glob I hg hm ?_ hdb)
  refine PySem.W.callWith_K (h₀ := X.base) I.ok.mod.kin hk (thn (ha pos pins s σ H _ I h) fun us s1 ⟨vs, H1, I1, r, q⟩ => ⟨I1.kIn, ?_⟩) he hpl
  exact run_fnB F hr hb I1 r q fun e s' h => hx pins σ H1 s1 e s' I1 h
end
end L2
namespace L2
open PySem PySem.Spec PyProof.Rows
abbrev Cx.hnd (X : Cx) (a : Addr) : Cx := { X with A := X.A.mark (some (.ref a)), calm := false, xe := fun _ _ => False }
section
variable {X : Cx} {pins : List (Addr × Obj)} {σ : St} {H : Hp} {s : Shared}
theorem Inv.hnd (I : Inv X pins σ H s) (a : Addr) : Inv (X.hnd a) pins σ H s :=
  ⟨⟨I.ok.mod, I.ok.kind, I.ok.glob, I.ok.blt, I.ok.above, I.ok.inj, I.ok.has, I.ok.cab, (fun z => nomatch z), I.ok.frames, I.ok.stk, I.ok.exf, I.ok.bs, I.ok.bsz, I.ok.noex, I.ok.exfs, I.ok.funs, I.ok.frf⟩, I.os, I.bare, I.base, I.loc, I.cell, I.free, I.freeC, I.pin, I.hok, I.len⟩
theorem Inv.unhnd {a : Addr} (I0 : X.Ok) (I : Inv (X.hnd a) pins σ H s) : Inv X pins σ H s := ⟨I0, I.os, I.bare, I.base, I.loc, I.cell, I.free, I.freeC, I.pin, I.hok, I.len⟩
theorem gone_ok {M : Model} {A : Around} {E : Value → Shared → Prop} {i : Nat} {n : Str} {pos : Pos} {Q : Unit → Shared → Prop} (I : Inv X pins σ H s) (hN : X.N.Nodup) (hi : X.N[i]? = some n) (hk : X.env.scope.names.lookup n = some .local)
    (h : ∀ s', Inv X pins (σ.set i none) H s' → Q () s') : wpAny M A (do bindName X.env n .none; unbindBehindTheSuite X.env n pos) Q E s := by
  obtain ⟨m, hn, hl⟩ := id I.loc
  have hcls : (X.env.scope.kind == .class || (X.env.scope.kind == .module && X.env.locals != X.env.globals)) = false := by rw [I.ok.kind]; rfl
  have hiσ : i < σ.length := by rw [I.len]; exact (List.getElem?_eq_some_iff.mp hi).1
  have cne := I.cne
  refine wpAny_nameGoes_keeps hk hn hcls fun h' v hn' hs => ?_
  obtain ⟨oL, _, _, hoL, _⟩ := id hn
  have tracked : HOk X.prog X.w H h' := fun b ob e => by
    refine (I.hok b ob e).stay (fun c w' hc q => (hs.2 c ?_).trans q) (fun _ q => q) fun _ _ q => q
    intro z
    have hfree := I.free
    rw [← z] at hfree
    rcases hc with hc | hc
    · rw [hc] at hfree; rw [hfree] at e; cases e
    · rw [hfree] at hc; cases hc
  refine h _ ⟨I.ok, I.os, I.bare, ⟨fun b o e n hb hx => ?_, fun b o e n hb hx => ?_, I.base.free, fun b o e hx => ?_, I.base.tups, I.base.frzs, I.base.tbls⟩, ⟨_, hn', fun j y v' e1 e2 e3 => ?_⟩, fun y c e => ?_, I.free, I.freeC, fun p hp => ?_, tracked, by simpa using I.len⟩
  · exact (hs.2 b (Nat.ne_of_lt (Nat.lt_of_lt_of_le (Heap.lt_size e) I.ok.above))).trans (I.base.keep b o e n hb hx)
  · obtain ⟨sl, e1⟩ := I.base.slot b o e n hb hx
    exact ⟨sl, (hs.2 b (Nat.ne_of_lt (Nat.lt_of_lt_of_le (Heap.lt_size e) I.ok.above))).trans e1⟩
  · obtain ⟨o', e1⟩ := I.base.there b o e hx
    exact ⟨o', (hs.2 b (Nat.ne_of_lt (Nat.lt_of_lt_of_le (Heap.lt_size e) I.ok.above))).trans e1⟩
  · by_cases hj : j = i
    · subst hj
      rw [List.getElem?_set_self hiσ] at e2
      cases e2
    · rw [List.getElem?_set_ne (Ne.symm hj)] at e2
      obtain ⟨u', r', q⟩ := hl j y v' e1 e2 e3
      refine ⟨u', r', ?_⟩
      rcases q with ⟨k, e⟩ | ⟨k, c, e, z⟩
      · refine .inl ⟨k, ?_⟩
        have : y ≠ n := fun e => hj (nodup_ix hN e1 (e ▸ hi))
        simp [this, e]
      · exact .inr ⟨k, c, e, z.sameBut hs (cne y c e)⟩
  · obtain ⟨w', z⟩ := I.cell y c e
    exact ⟨w', z.sameBut hs (cne y c e)⟩
  · obtain ⟨e, n, ne, nf, d⟩ := I.pin p hp
    exact ⟨(hs.2 p.1 ne).trans e, n, ne, nf, d⟩
theorem inv_caughtG {H' : Hp} {h'' : Heap} {s' : Shared} {a : Addr} {φ : Heap → Prop} (I : Inv X pins σ H s) (ho : s'.os = s.os) (hg : AllBare s'.gens) (u : Un (frs X.stack) [] H H' s.heap h'' ∧ HOk X.prog X.w H' h'')
    (na : H' a = none) (nw : s.heap.get? a = none) (ex : φ h'') (hob : ∃ o, h''.get? a = some o) (sta : ∀ h1 h2 : Heap, φ h1 → (∀ o, h1.get? a = some o → h2.get? a = some o) → φ h2) : Inv X pins σ (upd H' a (.ext φ)) { s' with heap := h'' } := by
  refine inv_behind I ho hg ⟨⟨u.1.keep, u.1.slot, fun b o e n hx => ?_, u.1.there, fun b xs e => ?_, fun b o x e => ?_, fun b ps e => ?_⟩, fun b o e => ?_⟩
  · have : b ≠ a := fun z => by rw [z, nw] at e; cases e
    rw [upd_ne this]
    exact u.1.free b o e n hx
  · have q := u.1.tups b xs e
    rw [upd_ne (ne_of_none q na)]; exact q
  · have q := u.1.frzs b o x e
    rw [upd_ne (ne_of_none q na)]; exact q
  · obtain ⟨m, q⟩ := u.1.tbls b ps e
    exact ⟨m, by rw [upd_ne (ne_of_none q na)]; exact q⟩
  · by_cases hb : b = a
    · subst hb
      rw [upd_same] at e
      cases e
      exact ⟨ex, hob, sta⟩
    · rw [upd_ne hb] at e
      exact (u.2 b o e).stay (fun c v _ q => q) (fun c q => by rw [upd_ne (ne_of_none q na)]; exact q) fun c xs q => by rw [upd_ne (ne_of_none q na)]; exact q
theorem PA.any {es : List Expr} {t : TA} (h : PA X.nox es t) {E' : Value → Shared → Prop} (pos : Pos) {Q : List V → Hp → Prop} (I : Inv X pins σ H s) (q : t σ H Q) :
    wpAny (model X.prog X.w) X.A (spliced (backTo pos (starEach es X.env))) (AP X pins σ Q) E' s :=
  wpAny_mono (h pos pins s σ H Q (I.wish _) q) (fun us s1 ⟨vs, H1, I1, r, q1⟩ => ⟨vs, H1, I1.unwish, r, q1⟩) fun _ _ z => z.elim
end
abbrev Ends.gone (D : Ends) (i : Nat) : Ends := { nx := fun σ H => D.nx (σ.set i none) H, rt := D.rt, bk := fun σ H => D.bk (σ.set i none) H, ct := fun σ H => D.ct (σ.set i none) H }
section
variable {prog : Program} {w : World} {A : Around} {E : Value → Shared → Prop} {s : Shared} {K : PySem.W.Frag} {x D : Addr}
theorem ExcAt.type {M : Model} {h : Heap} (I : ExcAt x D h) : PySem.W.Looks M h (typeOf (.ref x)) (.ref D) := by
  obtain ⟨o, h1, h2⟩ := I
  exact h2 ▸ (PySem.W.Looks.ld h1).andThen .now
structure ExcK (K : PySem.W.Frag) (D : Addr) : Prop where
  cl : (PySem.W.clsIn K D).isSome = true
  ga : PySem.W.findIn K (.ref D) "__getattribute__" = some (some (.builtin "BaseException.__getattribute__"))
  gt : PySem.W.findIn K (.ref D) "__getattr__" = some none
  ha : PySem.W.findIn K (.ref D) "__class__" = some (some (.builtin "object.__class__"))
  hn : PySem.W.specialIn K (.builtin "object.__class__") "__get__" = some (some (.builtin "getset_descriptor.__get__"))
  ht : PySem.W.takesIn K (.builtin "object.__class__") = some true
  hm : PySem.W.mroIn K D (.type "object") = some true
  hb : PySem.W.mroIn K D (.type "BaseException") = some true
end
end L2
namespace L2
open PySem PySem.Spec PySem.Calls PyProof.Rows PySem.W Builtin Builtin.ObjectAttr Builtin.Getset_descriptor
section
variable {prog : Program} {w : World} {A : Around} {E : Value → Shared → Prop} {s : Shared} {K : PySem.W.Frag} {x D : Addr}
theorem exc_find {M : Model} {h : Heap} (X : K.In h) (F : ExcK K D) : Looks M h (find (.ref x) (.ref D) "__class__") (.bind (.builtin "getset_descriptor.__get__") (.builtin "object.__class__")) := by
  have a1 := looks_findIn (M := M) X F.ha
  have a2 : Looks M h (getOf (some (.builtin "object.__class__"))) (some (.builtin "getset_descriptor.__get__")) := looks_specialIn X F.hn
  have a3 : Looks M h (dataDescriptor? (some (.builtin "object.__class__")) (some (.builtin "getset_descriptor.__get__"))) (some (.builtin "getset_descriptor.__get__", .builtin "object.__class__")) := (looks_takesIn (M := M) X F.ht).andThen .now
  exact a1.andThen (a2.andThen (a3.andThen (Looks.tag .now)))
theorem exc_get {R : Result → Shared → Prop} {tp : Value} (X : K.In s.heap) (I : ExcAt x D s.heap) (F : ExcK K D) (h : R (.ok (.ret (.ref D))) s) :
    codeAny (model prog w) A (.call (.builtin "getset_descriptor.__get__") ⟨[.builtin "object.__class__", .ref x, tp], []⟩) R s := by
  obtain ⟨hh, g, dr, t, os⟩ := s
  have y0 := ExcAt.type (M := model prog w) I
  have y1 := looks_mroIn (M := model prog w) X F.hm
  refine codeAny_call_builtin KF.slot_gs.plain KF.entry_gs (KF.slot_gs.check _ _ _ _ _ _ _ _ KF.type_class (KF.args_gs _ _ _) ?_)
  unfold Builtin.«getset_descriptor.__get__» descrGet
  rw [dga_obj]
  refine wpAny_bind (wpAny_pure ?_)
  unfold descrGetter descrCheckInstance descrNameAndClass isInstance
  simp only [KF.owner_class]
  repeat lk
  refine ⟨Code.quiet_builtin _ (by decide +kernel), codeAny_builtin KF.entry_class ?_⟩
  unfold Builtin.«object.__class__» shownTypeOf
  repeat lk
  exact h
theorem exc_check {M : Model} {nameV : Value} {Q : Unit → Shared → Prop} (X : K.In s.heap) (I : ExcAt x D s.heap) (F : ExcK K D) (hq : Q () s) : wpAny M A (checkBuiltinCall "BaseException.__getattribute__" ⟨[.ref x, nameV], []⟩) Q E s := by
  obtain ⟨hh, g, d, t, os⟩ := s
  have y0 := ExcAt.type (M := M) I
  have y1 := looks_mroIn (M := M) X F.hb
  have hk : builtinKind "BaseException.__getattribute__" = some .slot := by decide +kernel
  have hsplit : splitId "BaseException.__getattribute__" = some ("BaseException", "__getattribute__") := by decide +kernel
  have ha := PySem.F.args_bexc_ga (.ref x) nameV
  simp only [checkBuiltinCall, hk, hsplit]
  refine wpAny_bind ?_
  unfold isInstance
  repeat (first | lk | wp_step)
  exact hq
theorem exc_entry {Q : Fin → Shared → Prop} {tk : Tok} (X : K.In s.heap) (I : ExcAt x D s.heap) (F : ExcK K D) (hq : Q (.done (.ret (.ref D))) s) :
    wpAny (model prog w) A (Builtin.«object.__getattribute__» ⟨[.ref x, .str "__class__" tk], []⟩) Q E s := by
  obtain ⟨hh, g, d, t, os⟩ := s
  have y0 := ExcAt.type (M := model prog w) I
  have y2 := exc_find (M := model prog w) (x := x) X F
  unfold Builtin.«object.__getattribute__»
  repeat (any_goals (first | assumption | (with_reducible refine y0.at ?_) | (with_reducible refine y2.at ?_) | wp_step))
  refine exc_get (s := ⟨hh, g, d, t, os⟩) X I F ?_
  repeat (any_goals (first | assumption | (with_reducible refine y0.at ?_) | (with_reducible refine y2.at ?_) | wp_step))
theorem exc_class {Q : Option Value → Shared → Prop} (X : K.In s.heap) (I : ExcAt x D s.heap) (F : ExcK K D) (q : Q (some (.ref D)) { s with toks := s.toks + 1 }) :
    wpAny (model prog w) A (getAttr? (.ref x) "__class__") Q E s := by
  obtain ⟨hh, g, d, t, os⟩ := s
  have y0 := ExcAt.type (M := model prog w) I
  have y1 := looks_findIn (M := model prog w) X F.ga
  have y3 := looks_findIn (M := model prog w) X F.gt
  have f3 := PySem.F.excAttr_ValueError.ga.bind (.ref x)
  have hx1 : (onTheHeap (Value.ref D) && Value.builtin "BaseException.__getattribute__" == Value.builtin "object.__getattribute__") = false := by
    rw [show (Value.builtin "BaseException.__getattribute__" == Value.builtin "object.__getattribute__") = false by decide +kernel]; rfl
  unfold getAttr? getAttrBy? getAttrBy
  refine wpAny_bind (wpAny_mkText (wpAny_bind (wpAny_attempt (wpAny_holding (wpAny_bind (y0.at (wpAny_bind (y1.at ?_))))))))
  dsimp only
  rw [hx1]
  rw [if_neg Bool.false_ne_true]
  unfold getAttrByItsOwn hookBefore
  repeat (any_goals (first | assumption | wp_step | lk))
  refine codeAny_call_builtin PySem.F.excAttr_ValueError.ga.plain PySem.F.entry_bexc_ga (exc_check (s := ⟨hh, g, d, t + 1, os⟩) X I F (exc_entry (s := ⟨hh, g, d, t + 1, os⟩) X I F ?_))
  repeat (any_goals (first | assumption | wp_step | lk))
theorem kitx_exc (F : ExcK K D) : KitX K (.ref x) (.ref D) (ExcAt x D) where
  ty := fun _ _ _ I => I.type
  it := fun M h X _ => by
    obtain ⟨cd, hc⟩ := Option.isSome_iff_exists.mp F.cl
    unfold clsIn at hc
    split at hc
    · rename_i c' d' cd' sl' ho
      intro A' Q' E' s' k q
      unfold isType loadHead
      exact wpAny_bind (wpAny_loadPart (k _ _ (X _ _ ho)) (wpAny_pure q))
    · cases hc
  ne := fun h tp dd its n sl X htp => by
    obtain ⟨cd, hc⟩ := Option.isSome_iff_exists.mp F.cl
    refine Bool.eq_false_iff.mpr fun q => ?_
    have e : D = tp := Value.ref.inj (beq_iff_eq.mp q)
    subst e
    unfold clsIn at hc
    split at hc
    · rename_i c' d' cd' sl' ho
      have z := (X _ _ ho).symm.trans htp
      cases z
    · cases hc
  ca := fun X I k => exc_class X I F k
end
end L2
namespace Fr
theorem absE (i : Int) : (if i < 0 then -i else i) = (i.natAbs : Int) := by omega
theorem gcd_turn (m n : Nat) : Nat.gcd n (m % n) = Nat.gcd m n := by
  rw [Nat.gcd_comm n (m % n), ← Nat.gcd_rec n m, Nat.gcd_comm]
def gcd (a b : Int) : Int := ((Nat.gcd a.natAbs b.natAbs : Nat) : Int)
theorem gcd_nn (a b : Int) : 0 ≤ gcd a b := Int.natCast_nonneg _
theorem gcd_pos {a b : Int} (h : b ≠ 0) : 0 < gcd a b := by
  unfold gcd
  have : 0 < Nat.gcd a.natAbs b.natAbs := Nat.gcd_pos_of_pos_right _ (by omega)
  omega
theorem gcd_le {a b : Int} (h : b ≠ 0) : gcd a b ≤ (b.natAbs : Int) := by
  unfold gcd
  have : Nat.gcd a.natAbs b.natAbs ≤ b.natAbs := Nat.gcd_le_right _ (by omega)
  omega
theorem gcd_dvd_l (a b : Int) : gcd a b ∣ a := by
  unfold gcd
  exact Int.ofNat_dvd_left.mpr (Nat.gcd_dvd_left _ _)
theorem gcd_dvd_r (a b : Int) : gcd a b ∣ b := by
  unfold gcd
  exact Int.ofNat_dvd_left.mpr (Nat.gcd_dvd_right _ _)
def sg (t b : Int) : Int := if b < 0 then 0 - gcd t b else gcd t b
def lt (t b : Int) : Int := t.fdiv (sg t b)
def lb (t b : Int) : Int := b.fdiv (sg t b)
theorem sg_ne {t b : Int} (h : b ≠ 0) : sg t b ≠ 0 := by
  unfold sg
  have := gcd_pos (a := t) h
  split <;> omega
theorem sg_abs {t b : Int} : (sg t b).natAbs = (gcd t b).natAbs := by
  unfold sg
  split <;> omega
theorem sg_dvd_t (t b : Int) : sg t b ∣ t := by
  unfold sg
  split
  · rw [Int.zero_sub]; exact Int.neg_dvd.mpr (gcd_dvd_l t b)
  · exact gcd_dvd_l t b
theorem sg_dvd_b (t b : Int) : sg t b ∣ b := by
  unfold sg
  split
  · rw [Int.zero_sub]; exact Int.neg_dvd.mpr (gcd_dvd_r t b)
  · exact gcd_dvd_r t b
theorem fdiv_mul {a g : Int} (h : g ∣ a) : a.fdiv g * g = a := by
  rw [Int.fdiv_eq_ediv_of_dvd h]
  exact Int.ediv_mul_cancel h
theorem lt_mul (t b : Int) : lt t b * sg t b = t := fdiv_mul (sg_dvd_t t b)
theorem lb_mul (t b : Int) : lb t b * sg t b = b := fdiv_mul (sg_dvd_b t b)
theorem lb_pos {t b : Int} (h : b ≠ 0) : 0 < lb t b := by
  have e := lb_mul t b
  have g := gcd_pos (a := t) h
  have hs : sg t b = if b < 0 then 0 - gcd t b else gcd t b := rfl
  rcases Int.lt_trichotomy (lb t b) 0 with z | z | z
  · exfalso
    by_cases hb : b < 0
    · rw [if_pos hb] at hs
      have : 0 < lb t b * sg t b := by
        rw [hs]
        exact Int.mul_pos_of_neg_of_neg z (by omega)
      omega
    · rw [if_neg hb] at hs
      have : lb t b * sg t b < 0 := by
        rw [hs]
        exact Int.mul_neg_of_neg_of_pos z g
      omega
  · rw [z] at e; omega
  · exact z
theorem low_same {t b : Int} (h : 0 < b) : (lt t b = t ∧ lb t b = b) ↔ gcd t b = 1 := by
  have hs : sg t b = gcd t b := if_neg (by omega)
  have g := gcd_pos (a := t) (b := b) (by omega)
  have e := lb_mul t b
  constructor
  · rintro ⟨-, h2⟩
    rw [h2, hs] at e
    have : b * gcd t b = b * 1 := by omega
    exact Int.eq_of_mul_eq_mul_left (by omega) this
  · intro h1
    unfold lt lb
    rw [hs, h1, Int.fdiv_one, Int.fdiv_one]
    exact ⟨rfl, rfl⟩
theorem log2_small {n k : Nat} (h : n < 2 ^ k) (hk : 0 < k) : n.log2 < k := by
  by_cases z : n = 0
  · subst z; simpa using hk
  · exact (Nat.log2_lt z).mpr h
theorem lb_abs {t b : Int} (h : b ≠ 0) : (lb t b).natAbs ≤ b.natAbs := by
  have e := lb_mul t b
  have g := sg_ne (t := t) h
  have h1 : (lb t b).natAbs * (sg t b).natAbs = b.natAbs := by rw [← Int.natAbs_mul, e]
  have h2 : 1 ≤ (sg t b).natAbs := by omega
  calc (lb t b).natAbs = (lb t b).natAbs * 1 := (Nat.mul_one _).symm
    _ ≤ (lb t b).natAbs * (sg t b).natAbs := Nat.mul_le_mul_left _ h2
    _ = b.natAbs := h1
end Fr
namespace Fr
theorem gcd_comm' (t b : Int) : ((b.gcd t : Nat) : Int) = gcd t b := by
  unfold gcd Int.gcd
  rw [Nat.gcd_comm]
theorem lt_num {t b : Int} (h : b ≠ 0) : lt t b = (Rat.divInt t b).num := by
  have g0 := gcd_pos (a := t) h
  rw [Rat.num_divInt, gcd_comm']
  have e := lt_mul t b
  have d : gcd t b ∣ b.sign * t := Int.dvd_mul_of_dvd_right (gcd_dvd_l t b)
  refine (Int.ediv_eq_of_eq_mul_left (by omega) ?_).symm
  have hs : sg t b = b.sign * gcd t b := by
    unfold sg
    rcases Int.lt_trichotomy b 0 with z | z | z
    · rw [if_pos z, Int.sign_eq_neg_one_of_neg z]; omega
    · exact absurd z h
    · rw [if_neg (by omega), Int.sign_eq_one_of_pos z]; omega
  have h2 : b.sign * b.sign = 1 := by
    rcases Int.lt_trichotomy b 0 with z | z | z
    · rw [Int.sign_eq_neg_one_of_neg z]; rfl
    · exact absurd z h
    · rw [Int.sign_eq_one_of_pos z]; rfl
  calc b.sign * t = b.sign * (lt t b * sg t b) := by rw [e]
    _ = (b.sign * b.sign) * (lt t b * gcd t b) := by rw [hs]; grind
    _ = lt t b * gcd t b := by rw [h2]; omega
theorem lb_den {t b : Int} (h : b ≠ 0) : lb t b = ((Rat.divInt t b).den : Int) := by
  have e1 := lt_mul t b
  have e2 := lb_mul t b
  have s0 := sg_ne (t := t) h
  have n := lt_num (t := t) h
  have c : (Rat.divInt t b).num * b = t * ((Rat.divInt t b).den : Int) := by
    have z : Rat.divInt (Rat.divInt t b).num ((Rat.divInt t b).den : Int) = Rat.divInt t b := Rat.num_divInt_den _
    have d0 : (((Rat.divInt t b).den : Nat) : Int) ≠ 0 := by
      have := (Rat.divInt t b).den_nz
      omega
    exact (Rat.divInt_eq_divInt_iff d0 h).mp z
  by_cases t0 : t = 0
  · subst t0
    have : Rat.divInt 0 b = 0 := Rat.zero_divInt b
    rw [this]
    have g : gcd 0 b = (b.natAbs : Int) := by unfold gcd; simp
    have bp := lb_pos (t := 0) h
    have a1 : (lb 0 b).natAbs * (sg 0 b).natAbs = b.natAbs := by rw [← Int.natAbs_mul, e2]
    rw [sg_abs, g] at a1
    have b0 : 0 < b.natAbs := by omega
    have a2 : (lb 0 b).natAbs = 1 := by
      have : (lb 0 b).natAbs * b.natAbs = 1 * b.natAbs := by simpa using a1
      exact Nat.eq_of_mul_eq_mul_right b0 this
    show lb 0 b = 1
    omega
  · rw [← n] at c
    have h1 : t * lb t b = t * ((Rat.divInt t b).den : Int) := by
      rw [← c]
      calc t * lb t b = (lt t b * sg t b) * lb t b := by rw [e1]
        _ = lt t b * (lb t b * sg t b) := by grind
        _ = lt t b * b := by rw [e2]
    exact Int.eq_of_mul_eq_mul_left t0 h1
theorem den_pos (q : Rat) : 0 < (q.den : Int) := by
  have := q.den_pos
  omega
theorem divInt_rat (q : Rat) : Rat.divInt q.num (q.den : Int) = q := Rat.num_divInt_den q
theorem den_ne (q : Rat) : (q.den : Int) ≠ 0 := by have := den_pos q; omega
theorem sum_rat (p q : Rat) : Rat.divInt (p.num * q.den + q.num * p.den) (p.den * q.den) = p + q := by
  rw [← Rat.divInt_add_divInt _ _ (den_ne p) (den_ne q), divInt_rat, divInt_rat]
theorem less_rat (p q : Rat) : Rat.divInt (p.num * q.den - q.num * p.den) (p.den * q.den) = p - q := by
  rw [← Rat.divInt_sub_divInt _ _ (den_ne p) (den_ne q), divInt_rat, divInt_rat]
theorem prod_rat (p q : Rat) : Rat.divInt (p.num * q.num) (p.den * q.den) = p * q := by
  rw [← Rat.divInt_mul_divInt, divInt_rat, divInt_rat]
theorem quot_rat (p q : Rat) : Rat.divInt (p.num * q.den) (p.den * q.num) = p / q := by
  rw [Rat.div_def, ← Rat.divInt_mul_divInt, divInt_rat]
  congr 1
  have := Rat.inv_divInt q.num q.den
  rw [divInt_rat] at this
  exact this.symm
theorem lt_rat (p q : Rat) : p.num * q.den < q.num * p.den ↔ p < q := (Rat.lt_iff p q).symm
theorem num_zero (q : Rat) : q.num = 0 ↔ q = 0 := Rat.num_eq_zero
end Fr
namespace Fr
theorem lt_abs (t b : Int) (h : b ≠ 0) : (lt t b).natAbs ≤ t.natAbs := by
  have e := lt_mul t b
  have g := sg_ne (t := t) h
  have h1 : (lt t b).natAbs * (sg t b).natAbs = t.natAbs := by rw [← Int.natAbs_mul, e]
  have h2 : 1 ≤ (sg t b).natAbs := by omega
  calc (lt t b).natAbs = (lt t b).natAbs * 1 := (Nat.mul_one _).symm
    _ ≤ (lt t b).natAbs * (sg t b).natAbs := Nat.mul_le_mul_left _ h2
    _ = t.natAbs := h1
end Fr
namespace L2
open PySem PySem.Spec PyProof.Rows
theorem TopFn.calN {c : Bool} {P : Program} {w : World} {K : PySem.W.Frag} {mg : Str → Option Value} {base : Heap} {x : Str} {st : Stmt} {N ps : List Str} {k : Nat} {sp : Sp} (T : TopFn K mg x st) (S : FnScope N ps (defScope st))
    (hb : ∀ (kV doc pm : Value) (an : Option Addr) (cdv ct : Value) (us : List Value), us.length = ps.length → bindArgs (PySem.W.fnOf x x (defArgs st) (defBody st) (defScope st) .none kV doc pm an cdv ct) ⟨us, []⟩ = pure (ps.zip us))
    (len : ∀ vs H Q E, sp vs H Q E → vs.length = ps.length)
    (hbody : ∀ (f : Addr) (cdv : Value) (A : Around) (outer : List Env) (s : Shared) (H : Hp) (vs : List V) (Q : VK) (E : XK), RoomB c k (A.deeper (envOfC x (defScope st) s.heap.objs.size f cdv)) → sp vs H Q E →
      ∃ t, PSs (cxB c P w K mg base N x (defScope st) f cdv A outer s H E).nox (defBody st) t ∧ t { nx := fun _ H' => Q .non H', rt := Q } (start N vs) H) : CalB P w K mg base c (k + 1) x ps sp :=
  T.calB S hb len fun f cdv A outer s H vs Q E hr h => by
    obtain ⟨t, h1, h2⟩ := hbody f cdv A outer s H vs Q E hr h
    exact ⟨t, h1.nox, h2⟩
theorem bt_ValueError : bootBuiltins "ValueError" = some (.type "ValueError") := by decide +kernel
theorem Fun.okB {c : Bool} {P : Program} {w : World} {K : PySem.W.Frag} {mg : Str → Option Value} {base : Heap} {x : Str} {st : Stmt} {f : Addr} {fd : FuncData} {N ps : List Str} {k : Nat} {sp : Sp} (F : Fun K x x st f fd) (S : FnScope N ps (defScope st))
    (len : ∀ vs H Q E, sp vs H Q E → vs.length = ps.length)
    (hbody : ∀ (cdv : Value) (A : Around) (outer : List Env) (s : Shared) (H : Hp) (vs : List V) (Q : VK) (E : XK), RoomB c k (A.deeper (envOfC x (defScope st) s.heap.objs.size f cdv)) → sp vs H Q E →
      ∃ t, PSs (cxB c P w K mg base N x (defScope st) f cdv A outer s H E).nox (defBody st) t ∧ t { nx := fun _ H' => Q .non H', rt := Q } (start N vs) H) : FnB P w K mg base c (k + 1) f fd ps sp := by
  obtain ⟨oc, od, kV, doc, pm, an, cdv, ct, osl, rfl, l, cd⟩ := id F.ex
  exact fnB_of l cd S len fun A outer s H vs Q E hr h => by
    obtain ⟨t, h1, h2⟩ := hbody cdv A outer s H vs Q E hr h
    exact ⟨t, h1.nox, h2⟩
end L2
namespace Lib
open PySem L2
def lim : Nat := 2 ^ 9000
theorem lim_log {n : Nat} (h : n < lim) : n.log2 < 9000 := Fr.log2_small h (by decide)
theorem lim_mul {n : Nat} (h : n < lim) : n < 2 ^ 10000 := Nat.lt_trans h (by unfold lim; decide +kernel)
def spDiv : Sp := fun vs H Q _ => ∃ a b : Int, vs = [.int a, .int b] ∧ Q (.int (Fr.gcd a b)) H
def spLaw (K : PySem.W.Frag) : Sp := fun vs H Q _ => ∃ (a : Addr) (ns : List Int), vs = [.ref a] ∧ SqL K H a (ns.map V.int) ∧ ns.length ≤ 63 ∧ ∀ H', Q (.bl true) H'
theorem decI (i j : Int) : decide (V.int i = V.int j) = decide (i = j) := by
  by_cases h : i = j
  · subst h; simp
  · have : ¬ V.int i = V.int j := fun z => h (V.int.inj z)
    rw [decide_eq_false h, decide_eq_false this]
theorem atI_in {xs : List V} {r : Int} (h0 : 0 ≤ r) (h1 : r < (xs.length : Int)) : ∃ v, atI xs r = some v ∧ v ∈ xs := by
  have hj : r.toNat < xs.length := by omega
  have e : ((r.toNat : Nat) : Int) = r := by omega
  have q : atI xs ((r.toNat : Nat) : Int) = some xs[r.toNat] := atI_nat (List.getElem?_eq_getElem hj)
  rw [e] at q
  exact ⟨_, q, List.getElem_mem hj⟩
theorem cut_ints (ns : List Int) (lo hi : Option Int) : ∀ x ∈ cutV (ns.map V.int) lo hi, ∃ z : Int, x = .int z := fun x hx => by
  unfold cutV at hx
  have h1 := List.mem_of_mem_drop (List.mem_of_mem_take hx)
  obtain ⟨z, _, rfl⟩ := List.mem_map.mp h1
  exact ⟨z, rfl⟩
def forBody (s : Stmt) : List Stmt := match s with
  | .For _ _ b _ _ => b
  | _ => []
theorem eqv_pair (a b c d : Int) : PyData.eqv (.tuple [.int a, .int b]) (.tuple [.int c, .int d]) = (decide (a = c) && decide (b = d)) := by
  simp only [PyData.eqv, PyData.eqvAll, Bool.and_true]
  by_cases h1 : a = c <;> by_cases h2 : b = d <;> simp [h1, h2]
end Lib
namespace Lib
open PySem L2
abbrev frO (q : Rat) : HO := .tup [.int q.num, .int (q.den : Int)]
def lim2 : Nat := 2 ^ 4000
theorem lim2_40 : (10 : Nat) ^ 40 < lim2 := by unfold lim2; decide +kernel
theorem lim2_lim : lim2 < lim := by unfold lim lim2; decide +kernel
theorem lim2_sq : lim2 * lim2 + lim2 * lim2 < lim := by unfold lim lim2; decide +kernel
structure Sm (q : Rat) : Prop where
  n : q.num.natAbs < lim2
  d : q.den < lim2
theorem Sm.neg {q : Rat} (h : Sm q) : Sm (-q) := ⟨by rw [Rat.neg_num, Int.natAbs_neg]; exact h.n, by rw [Rat.neg_den]; exact h.d⟩
theorem nat_mul_lt {a b : Nat} (ha : a < lim2) (hb : b < lim2) : a * b < lim2 * lim2 := Nat.mul_lt_mul'' ha hb
theorem mul_lim {x y : Int} (hx : x.natAbs < lim2) (hy : y.natAbs < lim2) : (x * y).natAbs < lim := by
  rw [Int.natAbs_mul]
  have := nat_mul_lt hx hy
  have := lim2_sq
  omega
theorem mulW {x y : Int} (hx : x.natAbs < lim2) (hy : y.natAbs < lim2) : CMulW x y := ⟨lim_mul (Nat.lt_trans hx lim2_lim), lim_mul (Nat.lt_trans hy lim2_lim)⟩
theorem Sm.dn {q : Rat} (h : Sm q) : ((q.den : Int)).natAbs < lim2 := by rw [Int.natAbs_natCast]; exact h.d
theorem den0 (q : Rat) : ((q.den : Nat) : Int) ≠ 0 := by have := q.den_nz; omega
theorem denp (q : Rat) : (0 : Int) < ((q.den : Nat) : Int) := by have := q.den_nz; omega
theorem den_mul0 (p q : Rat) : ((p.den : Int)) * (q.den : Int) ≠ 0 := Int.mul_ne_zero (den0 p) (den0 q)
theorem frO_of {t b : Int} (h : b ≠ 0) : (HO.tup [.int (Fr.lt t b), .int (Fr.lb t b)]) = frO (Rat.divInt t b) := by
  rw [Fr.lt_num h, Fr.lb_den h]
theorem frO_gcd (q : Rat) : Fr.gcd q.num (q.den : Int) = 1 := by
  unfold Fr.gcd
  have := q.reduced
  unfold Nat.Coprime at this
  rw [Int.natAbs_natCast, this]
  rfl
theorem eqv_fr (p q : Rat) : PyData.eqv (.tuple [.int p.num, .int (p.den : Int)]) (.tuple [.int q.num, .int (q.den : Int)]) = decide (p = q) := by
  rw [eqv_pair]
  by_cases h : p = q
  · subst h; simp
  · rw [decide_eq_false h]
    by_cases h1 : p.num = q.num
    · have h2 : ¬ ((p.den : Int) = (q.den : Int)) := fun z => h (Rat.ext h1 (Int.ofNat.inj z))
      simp [h2]
    · simp [h1]
end Lib
namespace Lib
open PySem L2
end Lib
namespace L2
open PySem PySem.Spec PyProof.Rows PySem.Builtin PySem.Builtin.Str
section
variable {X : Cx}
variable {a : Expr} {ta : TE} {es : List Expr} {tr : Str → St → Hp → VK → Prop} {p pos : Pos}
theorem call_all (hc : X.calm = true) : CallR X (.builtin "all") (fun xs H Q => ∃ (p : Addr) (bs : List Bool), xs = [.ref p] ∧ SqL X.K H p (bs.map V.bl) ∧ Q (.bl (bs.all id)) H) := by
  intro pins s σ H xs us Q I r h
  obtain ⟨p, bs, rfl, hp, q⟩ := h
  obtain ⟨u, rfl, ru⟩ := vals1 r
  cases ru
  obtain ⟨its, rv, pl, hz⟩ := I.list hp
  have hlen : its.toArray.size = bs.length := by
    have := rv.length
    rw [List.length_map] at this
    rw [List.size_toArray]; exact this.symm
  have hlt : p < s.heap.objs.size := by
    obtain ⟨o, e, _⟩ := pl.isList
    exact Heap.lt_size e
  have hh : X.A.in1.handled = none := I.ok.hd hc
  refine call_all_walk (wpAny_pyIter_list pl.isList ⟨s.heap.objs.size, _, _, _, _, _, fun i => bs.getD i false, rfl, Walks.list hh s.heap.objs.size p (Nat.ne_of_lt hlt) its.toArray, ⟨⟨_, Heap.get?_push_size _ rfl, rfl, rfl⟩, pl.isList.push _⟩, ?_, fun h' tk k => ?_⟩)
  · intro i v s1 Q1 E1 hP hQ
    have hg : its[i]? = some v := by simpa using hP
    have hb : bs[i]? = some (bs.getD i false) ∧ RelV (.bl (bs.getD i false)) v := by
      have hi : i < bs.length := by
        have := (List.getElem?_eq_some_iff.mp hg).1
        rw [← hlen, List.size_toArray]; exact this
      have e1 : (bs.map V.bl)[i]? = some (.bl (bs.getD i false)) := by
        rw [List.getElem?_map, List.getD_eq_getElem?_getD, List.getElem?_eq_getElem hi]; rfl
      obtain ⟨u, hu, ru⟩ := rv.get e1
      rw [hg] at hu
      cases hu
      refine ⟨?_, ru⟩
      rw [List.getD_eq_getElem?_getD, List.getElem?_eq_getElem hi]; rfl
    obtain ⟨_, ru⟩ := hb
    cases ru
    exact wpAny_truthy_bool hQ
  · have e : (List.range its.toArray.size).all (fun i => bs.getD i false) = bs.all id := by
      rw [hlen]
      clear hlen rv q k hp hz
      induction bs with
      | nil => rfl
      | cons b r ih =>
        rw [List.length_cons, List.range_succ_eq_map, List.all_cons, List.all_map, List.all_cons, ← ih]
        rfl
    rw [e]
    exact ⟨.bl _, H, I.kept (h' := h') (t' := tk) fun b o e => k b o (by
      intro hb
      have : b = s.heap.objs.size := by simpa using hb
      exact absurd (Heap.lt_size e) (by rw [this]; exact Nat.lt_irrefl _)) (Heap.get?_push_of_some _ e), rfl, q⟩
end
end L2
namespace L2
open PySem PySem.Spec PyProof.Rows PySem.Builtin PySem.Builtin.Str
end L2
namespace Tx
open PySem PySem.Builtin PySem.Builtin.Str PySem.NumText PyProof.Rows
end Tx
namespace Tx
open PySem PySem.Builtin PySem.Builtin.Str PySem.NumText PyProof.Rows
end Tx
namespace Lib
open PySem L2 Tx PySem.NumText
end Lib
namespace Lib
open PySem L2 Tx PySem.NumText
end Lib
namespace Tx
end Tx
namespace Lib
open PySem L2 Tx PySem.NumText
theorem rat_of {i j : Int} (h1 : 1 ≤ j) (h2 : Fr.gcd i j = 1) : ∃ q : Rat, q.num = i ∧ ((q.den : Nat) : Int) = j := by
  have hj : j ≠ 0 := by omega
  obtain ⟨g1, g2⟩ := (Fr.low_same (t := i) (b := j) (by omega)).mpr h2
  exact ⟨Rat.divInt i j, by rw [← Fr.lt_num hj, g1], by rw [← Fr.lb_den hj, g2]⟩
end Lib
namespace Lib
open PySem L2 Tx
theorem Sm.zero : Sm 0 := ⟨by show (0 : Int).natAbs < lim2; exact Nat.lt_trans (by decide) lim2_40, by show 1 < lim2; exact Nat.lt_trans (by decide) lim2_40⟩
def spOfG : Sp := fun vs H Q _ => ∃ t b : Int, vs = [.int t, .int b] ∧ b ≠ 0 ∧ b.natAbs < lim ∧ ∀ p, H p = none → Q (.ref p) (upd H p (.tup [.int (Fr.lt t b), .int (Fr.lb t b)]))
end Lib
namespace L2
open PySem PySem.Spec PyProof.Rows
section
variable {prog : Program} {w : World} {A : Around} {R : Result → Shared → Prop} {s : Shared}
theorem compLoop_own {elt target iter : Expr} {ifs : List Expr} {scope : Scope} {pos : Pos} {it acc : Value} {env : Env} (I : Nat → Shared → Prop)
    (turn : ∀ n s, I n s → wpAny (model prog w) A (pyNext it) (fun r s₁ => match r with
      | none => R (.ok .next) s₁
      | some v => wpAny (model prog w) A (letOwnedTupleGo target it v) (fun _ s₁' => wpAny (model prog w) A (assign target env v) (fun _ s₂ =>
          wpAny (model prog w) A (forIn ifs true fun c r => if r = true then do let ok ← isTrue c env (eval c env); pure (ForInStep.yield ok) else pure (ForInStep.yield r)) (fun ok s₃ =>
            if ok = true then wpAny (model prog w) A (eval elt env) (fun x s₄ =>
              wpAny (model prog w) A (call (.builtin "list.append") [acc, x]) (fun _ s₅ => ∃ m, m < n ∧ I m s₅) (fun _ _ => False) s₄) (fun _ _ => False) s₃
            else ∃ m, m < n ∧ I m s₃) (fun _ _ => False) s₂) (fun _ _ => False) s₁') (fun _ _ => False) s₁) (fun _ _ => False) s)
    (n : Nat) (h : I n s) :
    codeAny (model prog w) A (.compLoop (.ListComp elt [⟨target, iter, ifs, 0⟩] scope pos) 0 it acc env) R s := by
  refine codeAny_loop rfl I (fun n s hI => ?_) n h
  show wpAny _ A ((compTurn (.ListComp elt [⟨target, iter, ifs, 0⟩] scope pos) 0 it acc env).onRaise (fun x => do noteFrame x env; theTreesLotGoes x)) _ _ s
  refine wpAny_noted ?_
  rw [compTurn_list]
  refine wpAny_bind (wpAny_standAt (wpAny_bind (wpAny_mono (turn n s hI) (fun r s₁ h₁ => ?_) fun _ _ z => z.elim)))
  cases r with
  | none => exact wpAny_pure h₁
  | some v =>
    refine wpAny_bind (wpAny_mono h₁ (fun _ s₁' h₁' => ?_) fun _ _ z => z.elim)
    refine wpAny_bind (wpAny_mono h₁' (fun _ s₂ h₂ => wpAny_bind (wpAny_mono h₂ (fun ok s₃ h₃ => ?_) fun _ _ z => z.elim)) fun _ _ z => z.elim)
    cases ok with
    | false => exact wpAny_pure ⟨rfl, h₃⟩
    | true =>
      exact wpAny_bind (wpAny_bind (wpAny_mono h₃ (fun x s₄ h₄ => wpAny_bind (wpAny_mono h₄ (fun _ s₅ h₅ => wpAny_pure (wpAny_pure ⟨rfl, h₅⟩)) fun _ _ z => z.elim)) fun _ _ z => z.elim))
end
def cxC (X : Cx) (scope : Scope) (cl : List (Str × Addr)) (N' : List Str) (C : Addr) (fp : List Addr) (pins : List (Addr × Obj)) (s2 : Shared) (H2 : Hp) : Cx :=
  { X with N := N', s₀ := s2, H₀ := H2, env := compEnvC scope cl C X.env, outer := X.stack, ex := fp, fn := fun _ => false, pn := X.pn ++ pins, xe := fun _ _ => False }
structure CapOk (X : Cx) (scope : Scope) (cl : List (Str × Addr)) : Prop where
  clos : closureFor scope X.env = pure cl
  sub : ∀ y c, cl.lookup y = some c → X.env.cells.lookup y = some c
  has : ∀ y, ((relabel scope X.env).names.lookup y = some .cell ∨ (relabel scope X.env).names.lookup y = some .free) → ∃ c, cl.lookup y = some c
theorem relabel_same {scope : Scope} {env : Env} (hfree : ∀ y ∈ scope.names, y.2 ≠ .free) : (relabel scope env).names = scope.names := by
  unfold relabel
  exact map_eq_self (l := scope.names) fun x hx => by
    obtain ⟨n, k⟩ := x
    have : (k == NameKind.free) = false := by simpa using hfree _ hx
    simp [this]
theorem cap_nil {X : Cx} {scope : Scope} (hfree : ∀ y ∈ scope.names, y.2 ≠ .free) (hcell : ∀ y ∈ scope.names, y.2 ≠ .cell) : CapOk X scope [] := by
  refine ⟨closureFor_none hfree, fun y c e => (by simp at e), fun y e => ?_⟩
  rw [relabel_same hfree] at e
  exfalso
  rcases e with e | e
  · exact hcell _ (PySem.mem_of_lookup e) rfl
  · exact hfree _ (PySem.mem_of_lookup e) rfl
def capSt (caps : List (Option Nat)) (σ : St) : St := caps.map fun o => o.bind fun j => (σ[j]?).join
section
variable {X : Cx} {pins : List (Addr × Obj)} {σ : St} {H2 : Hp} {s2 : Shared} {scope : Scope} {cl : List (Str × Addr)} {N' : List Str} {C : Addr} {fp : List Addr} {caps : List (Option Nat)}
theorem notStk (I : Inv X pins σ H2 s2) {b : Addr} (h1 : b ≠ X.env.locals) (h2 : b ∉ X.fs) : b ∉ frs X.stack := fun z => (List.mem_cons.mp (I.stkSub b z)).elim h1 h2
theorem inv_comp (I : Inv X pins σ H2 s2) (hf : ∀ b ∈ fp, FpOk X pins H2 b) (hl : ∀ b ∈ fp, b < s2.heap.objs.size) (hk : scope.kind = .function) (cap : CapOk X scope cl) (hC : s2.heap.objs.size ≤ C) {s4 : Shared} (os : s4.os = s2.os) (bare : AllBare s4.gens)
    (k : ∀ b o, s2.heap.get? b = some o → s4.heap.get? b = some o) (ns : s4.heap.Ns C fun _ => none) (hN : caps.length = N'.length)
    (hcap : ∀ (i j : Nat), caps[i]? = some (some j) → ∃ y : Str, N'[i]? = some y ∧ X.N[j]? = some y ∧ (relabel scope X.env).names.lookup y = some .cell ∧ X.env.scope.names.lookup y = some .cell) :
    Inv (cxC X scope cl N' C fp pins s2 H2) [] (capSt caps σ) H2 s4 := by
  have neC : ∀ b : Addr, b < s2.heap.objs.size → b ≠ C := fun b h => Nat.ne_of_lt (Nat.lt_of_lt_of_le h hC)
  refine ⟨⟨I.ok.mod, ?_, I.ok.glob, I.ok.blt, hC, fun y z c h1 h2 => I.ok.inj y z c (cap.sub y c h1) (cap.sub z c h2), fun y h => cap.has y h, (fun y c z => nomatch z), I.ok.hd, I.ok.frames, .inl rfl, fun b hb => ⟨neC b (hl b hb), fun y c e => (hf b hb).2.2.2.2.1 y c (cap.sub y c e)⟩,
    fun b o e => I.bs b o e, Nat.le_trans I.ok.bsz I.sz, fun b o e hb => ?_, fun b hb => notStk I (hf b hb).2.1 (hf b hb).2.2.1, I.stack, I.stkFree⟩,
    os, bare, Un.kept k, ⟨_, ns, fun i y v h1 h2 h3 => ?_⟩, fun y c e => ?_, I.hok.fresh hC, fun y c e => I.freeC y c (cap.sub y c e), fun p hp => ?_, I.hok.kept k, ?_⟩
  · show (relabel scope X.env).kind = .function
    exact hk
  · rcases (hf b hb).2.2.2.1 with z | z
    · exact I.ok.noex b o e z
    · exact absurd (Nat.lt_of_lt_of_le (Heap.lt_size e) (Nat.le_trans I.ok.bsz z)) (Nat.lt_irrefl _)
  · have h1 : N'[i]? = some y := h1
    unfold capSt at h2
    rw [List.getElem?_map] at h2
    cases hc : caps[i]? with
    | none => rw [hc] at h2; cases h2
    | some o =>
      rw [hc] at h2
      cases o with
      | none => cases h2
      | some j =>
        obtain ⟨y', e1, e2, e3, e4⟩ := hcap i j hc
        rw [h1] at e1
        cases e1
        have hj : σ[j]? = some (some v) := by
          have z : (σ[j]?).join = some v := by simpa using h2
          cases q : σ[j]? with
          | none => rw [q] at z; cases z
          | some w' => rw [q] at z; exact congrArg some z
        obtain ⟨m, hn, hm⟩ := I.loc
        obtain ⟨u, ru, lk⟩ := hm j y v e2 hj (.inr (.inl e4))
        refine ⟨u, ru, .inr ⟨.inl e3, ?_⟩⟩
        rcases lk with ⟨z, _⟩ | ⟨_, c, ec, o', ho', hd'⟩
        · rw [show X.env.kindOf y = X.env.scope.names.lookup y from rfl, e4] at z; cases z
        · obtain ⟨c', ec'⟩ := cap.has y (.inl e3)
          have := cap.sub y c' ec'
          rw [ec] at this
          cases this
          exact ⟨c, ec', o', k _ _ ho', hd'⟩
  · obtain ⟨v, o, ho, hd⟩ := I.cell y c (cap.sub y c e)
    exact ⟨v, o, k _ _ ho, hd⟩
  · have hp : p ∈ (X.pn ++ pins) ++ [] := hp
    rw [List.append_nil] at hp
    obtain ⟨e, n, ne, nf, d⟩ := I.pin p hp
    exact ⟨k _ _ e, n, neC _ (Heap.lt_size e), notStk I ne nf, d⟩
  · show (capSt caps σ).length = N'.length
    unfold capSt
    rw [List.length_map]
    exact hN
theorem comp_end {pl : List (Addr × Obj)} {σ' : St} {H' : Hp} {s' : Shared} {D : Addr} {items : Array Value} {ys : List V} {h'' : Heap} (I : Inv X pins σ H2 s2) (hf : ∀ b ∈ fp, FpOk X pins H2 b) (I' : Inv (cxC X scope cl N' C fp pins s2 H2) pl σ' H' s')
    (hpl : s'.heap.PlainList D items) (nD : H' D = none) (newD : s2.heap.get? D = none) (hDC : D ≠ C) (rv : Vals ys items.toList) (hz : ys.length ≤ sizeLine) (sb : Heap.SameBut C s'.heap h'') : Inv X pins σ (upd H' D (.lst ys)) { s' with heap := h'' } := by
  have hC : s2.heap.objs.size ≤ C := I'.ok.above
  have neC : ∀ b o, s2.heap.get? b = some o → b ≠ C := fun b o e => Nat.ne_of_lt (Nat.lt_of_lt_of_le (Heap.lt_size e) hC)
  have nC : H' C = none := I'.free
  obtain ⟨n0, ho⟩ := hpl
  refine I.call' (s' := { s' with heap := h'' }) (ch := fp) I'.os ⟨fun b o e n hb hx => sb.extBut b o (neC b o e) (I'.base.keep b o e n hb hx), fun b o e n hb hx => ?_, fun b o e n hx => ?_, fun b o e hx => ?_, fun b xs e => ?_, fun b o u e => ?_, fun b ps e => ?_⟩ (fun b o e => ?_) I'.bare fun b hb => ?_
  · obtain ⟨sl, q⟩ := I'.base.slot b o e n hb hx
    exact ⟨sl, sb.extBut b _ (neC b o e) q⟩
  · have : b ≠ D := fun z => by rw [z, newD] at e; cases e
    rw [upd_ne this]
    exact I'.base.free b o e n hx
  · obtain ⟨o', q⟩ := I'.base.there b o e hx
    exact ⟨o', sb.extBut b _ (neC b o e) q⟩
  · have q := I'.base.tups b xs e
    rw [upd_ne (ne_of_none q nD)]; exact q
  · have q := I'.base.frzs b o u e
    rw [upd_ne (ne_of_none q nD)]; exact q
  · obtain ⟨m, q⟩ := I'.base.tbls b ps e
    exact ⟨m, by rw [upd_ne (ne_of_none q nD)]; exact q⟩
  · by_cases hb : b = D
    · subst hb
      rw [upd_same] at e
      cases e
      exact ⟨hz, items.toList, n0, rv, sb.extBut _ _ hDC ho⟩
    · rw [upd_ne hb] at e
      refine (I'.hok b o e).stay (fun c v hc q => sb.extBut c v ?_ q) (fun c q => by rw [upd_ne (ne_of_none q nD)]; exact q) fun c xs q => by rw [upd_ne (ne_of_none q nD)]; exact q
      intro z
      subst z
      rcases hc with z | z
      · rw [← z, nC] at e; cases e
      · rw [nC] at z; cases z
  · obtain ⟨f0, f1, f2, f3, f4, f5⟩ := hf b hb
    exact ⟨f3, f1, f4, f5⟩
end
def PIfs (X : Cx) (ifs : List Expr) (t : TT) : Prop :=
  ∀ (pins : List (Addr × Obj)) (s : Shared) (σ : St) (H : Hp) (Q : Bool → Hp → Prop), Inv X pins σ H s → t σ H Q →
    wpAny (model X.prog X.w) X.A (forIn ifs true fun c r => if r = true then do let ok ← isTrue c X.env (eval c X.env); pure (ForInStep.yield ok) else pure (ForInStep.yield r)) (TP X pins σ Q) X.xe s
def tYes : TT := fun _ H Q => Q true H
theorem pifs_nil {X : Cx} : PIfs X [] tYes := fun pins s σ H Q I h => by
  simp only [List.forIn_nil]
  exact wpAny_pure ⟨H, I, h⟩
theorem pifs_one {X : Cx} {c : Expr} {t : TT} (hc : PT X c t) : PIfs X [c] t := fun pins s σ H Q I h => by
  simp only [List.forIn_cons, List.forIn_nil, if_true]
  exact wpAny_bind (wpAny_bind (wpAny_mono (hc pins s σ H Q I h) (fun b s' hb => wpAny_pure (wpAny_pure hb)) fun _ _ x => x))
def tCompB (g : TG) (tt : TT) (te : TE) (J : It) (σ : St) (H1 : Hp) (Q : VK) : Prop := ∃ W : Nat → Nat → St → List V → Hp → Prop, (∃ m, W 0 m σ [] H1) ∧ ∀ i m σ' ys H, W i m σ' ys H → ys.length ≤ sizeLine ∧
  ((J.stop i H ∧ ∀ p, H p = none → Q (.ref p) (upd H p (.lst ys))) ∨
   (J.go i H ∧ ∀ x H', J.yld i H x H' → g x σ' H' fun σ2 H2 => tt σ2 H2 fun b H3 => if b = true then te σ2 H3 fun y H4 => ∃ m', m' < m ∧ W (i + 1) m' σ2 (ys ++ [y]) H4 else ∃ m', m' < m ∧ W (i + 1) m' σ2 ys H3))
def tComp (wi : TI) (g : TG) (tt : TT) (te : TE) (caps : List (Option Nat)) : TE := fun σ H Q => wi σ H fun J H1 => tCompB g tt te J (capSt caps σ) H1 Q
theorem comp_run {X : Cx} {tg elt iter : Expr} {ifs : List Expr} {scope : Scope} {pos : Pos} {wi : TI} {g : TG} {tt : TT} {te : TE} {cl : List (Str × Addr)} (N' : List Str) (caps : List (Option Nat)) (hc : X.calm = true) (hi : PI X tg iter wi)
    (hg : ∀ C fp pins s2 H2, PG (cxC X scope cl N' C fp pins s2 H2) tg g) (ht : ∀ C fp pins s2 H2, PIfs (cxC X scope cl N' C fp pins s2 H2) ifs tt) (he : ∀ C fp pins s2 H2, PE (cxC X scope cl N' C fp pins s2 H2) elt te)
    (cap : CapOk X scope cl) (hcell : ∀ y ∈ scope.names, y.2 ≠ .cell) (hkind : scope.kind = .function) (hnames : ∀ y ∈ scope.names, y.2 = .local → scope.names.lookup y.1 = some .local) (hN : caps.length = N'.length)
    (hcap : ∀ (i j : Nat), caps[i]? = some (some j) → ∃ y : Str, N'[i]? = some y ∧ X.N[j]? = some y ∧ (relabel scope X.env).names.lookup y = some .cell ∧ X.env.scope.names.lookup y = some .cell)
    (hs : ∀ x, foldedSetIterable iter X.env x = pure x) {pins : List (Addr × Obj)} {s : Shared} {σ : St} {H : Hp} {Q : VK} {use : Option (Value → Sem Unit)} {QQ : Value → Shared → Prop}
    (fin : ∀ (C D : Addr) (fp : List Addr) (s2 s4 : Shared) (H2 H4 : Hp) (pl : List (Addr × Obj)) (σ' : St) (items : Array Value) (ys : List V), Inv X pins σ H2 s2 → (∀ b ∈ fp, FpOk X pins H2 b) → Inv (cxC X scope cl N' C fp pins s2 H2) pl σ' H4 s4 → s4.heap.PlainList D items → H4 D = none → s2.heap.get? D = none → D ≠ C →
      Vals ys items.toList → ys.length ≤ sizeLine → (∀ p, H4 p = none → Q (.ref p) (upd H4 p (.lst ys))) → compPost (model X.prog X.w) X.A X.xe use QQ (.ref D) C (.ok .next) s4)
    (I : Inv X pins σ H s) (h : tComp wi g tt te caps σ H Q) : wpAny (model X.prog X.w) X.A (comprehension (.ListComp elt [⟨tg, iter, ifs, 0⟩] scope pos) scope X.env (firstIterPos [⟨tg, iter, ifs, 0⟩] pos) (newList []) false (eval iter X.env) use) QQ X.xe s := by
  refine wpAny_comprehension_free (use := use) rfl hs cap.clos hkind hnames (thn (hi pins s σ H _ I h) fun xv s₁ h₁ => thn h₁ fun itv s₂ h₂ => ?_)
  obtain ⟨it, fp, tn, J, H2, rfl, I2, T, st2, f2, W, ⟨m0, w0⟩, turn⟩ := h₂
  have hfp : ∀ b ∈ fp, b < s₂.heap.objs.size := fun b hb => by obtain ⟨o, e, _⟩ := T.obj _ _ st2 b hb; exact Heap.lt_size e
  refine wpAny_newObj_type (wpAny_newFunctionEnv hcell (by intro y hy; simp at hy) (fun h₁ hns₁ hsb₁ => ?_) hkind)
  dsimp only at hns₁ hsb₁ ⊢
  generalize hH2 : s₂.heap.push { cls := .type "list", dict := none, data := .seq ([] : List Value).toArray } = H2' at hns₁ hsb₁ ⊢
  have hC : H2'.objs.size = s₂.heap.objs.size + 1 := by rw [← hH2, Heap.size_push]
  have hDC : s₂.heap.objs.size ≠ H2'.objs.size := by rw [hC]; exact Nat.ne_of_lt (Nat.lt_succ_self _)
  have hCle : s₂.heap.objs.size ≤ H2'.objs.size := by rw [hC]; exact Nat.le_succ _
  have below : ∀ b, b < s₂.heap.objs.size → b ≠ H2'.objs.size := fun b hb => by rw [hC]; exact Nat.ne_of_lt (Nat.lt_succ_of_lt hb)
  have old : ∀ b o, s₂.heap.get? b = some o → h₁.get? b = some o := fun b o e => hsb₁.extBut b o (below b (Heap.lt_size e)) (Heap.get?_push_of_some _ (hH2 ▸ Heap.get?_push_of_some _ e))
  have hacc : h₁.PlainList s₂.heap.objs.size #[] := ⟨_, hsb₁.extBut _ _ hDC (Heap.get?_push_of_some _ (hH2 ▸ Heap.get?_push_size _ rfl))⟩
  have newD : s₂.heap.get? s₂.heap.objs.size = none := Heap.get?_none_of_le (Nat.le_refl _)
  have nD2 : H2 s₂.heap.objs.size = none := I2.hok.fresh (Nat.le_refl _)
  generalize hDD : s₂.heap.objs.size = D at *
  generalize hCC : H2'.objs.size = C at *
  have fpD : ∀ b ∈ fp, b ≠ D := fun b hb => Nat.ne_of_lt (hfp b hb)
  have statX : ∀ {H' : Hp} {pl : List (Addr × Obj)}, (∀ p ∈ pl, p.1 = D) → (∀ b ∈ fp, H' b = none) → ∀ b ∈ fp, FpOk (cxC X scope cl N' C fp pins s₂ H2) pl H' b := fun {H' pl} hpl hn b hb => by
    obtain ⟨f0, f1, f2', f3, f4, f5⟩ := f2 b hb
    refine ⟨hn b hb, below b (hfp b hb), notStk I2 f1 f2', .inl hb, fun y c e => f4 y c (cap.sub y c e), fun p hp => ?_⟩
    rcases List.mem_append.mp hp with hp | hp
    · exact f5 p hp
    · rw [hpl p hp]; exact (fpD b hb).symm
  have ht' : ∀ n s', (∃ i σ' ys, ∃ (items : Array Value), ∃ H', Inv (cxC X scope cl N' C fp pins s₂ H2) [] σ' H' s' ∧ tn i s'.heap ∧ (∀ b ∈ fp, H' b = none) ∧ s'.heap.PlainList D items ∧ Vals ys items.toList ∧ H' D = none ∧ W i n σ' ys H') →
      wpAny (model X.prog X.w) X.A (pyNext (.ref it)) (fun r s₁ => match r with
      | none => compPost (model X.prog X.w) X.A X.xe use QQ (.ref D) C (.ok .next) s₁
      | some v => wpAny (model X.prog X.w) X.A (letOwnedTupleGo tg (.ref it) v) (fun _ s₁' => wpAny (model X.prog X.w) X.A (assign tg (compEnvC scope cl C X.env) v) (fun _ s₂' =>
          wpAny (model X.prog X.w) X.A (forIn ifs true fun c r => if r = true then do let ok ← isTrue c (compEnvC scope cl C X.env) (eval c (compEnvC scope cl C X.env)); pure (ForInStep.yield ok) else pure (ForInStep.yield r)) (fun ok s₃ =>
            if ok = true then wpAny (model X.prog X.w) X.A (eval elt (compEnvC scope cl C X.env)) (fun x s₄ =>
              wpAny (model X.prog X.w) X.A (call (.builtin "list.append") [.ref D, x]) (fun _ s₅ => ∃ m, m < n ∧ ∃ i σ' ys, ∃ (items : Array Value), ∃ H', Inv (cxC X scope cl N' C fp pins s₂ H2) [] σ' H' s₅ ∧ tn i s₅.heap ∧ (∀ b ∈ fp, H' b = none) ∧ s₅.heap.PlainList D items ∧ Vals ys items.toList ∧ H' D = none ∧ W i m σ' ys H') (fun _ _ => False) s₄) (fun _ _ => False) s₃
            else ∃ m, m < n ∧ ∃ i σ' ys, ∃ (items : Array Value), ∃ H', Inv (cxC X scope cl N' C fp pins s₂ H2) [] σ' H' s₃ ∧ tn i s₃.heap ∧ (∀ b ∈ fp, H' b = none) ∧ s₃.heap.PlainList D items ∧ Vals ys items.toList ∧ H' D = none ∧ W i m σ' ys H') (fun _ _ => False) s₂') (fun _ _ => False) s₁') (fun _ _ => False) s₁) (fun _ _ => False) s' := by
    rintro n s3 ⟨i, σ3, ys, items, H3, I3, st3, fr3, pl3, rv3, nD3, w3⟩
    obtain ⟨hz, hw⟩ := turn i n σ3 ys H3 w3
    obtain ⟨n0, ho⟩ := id pl3
    have nfsD : D ∉ frs X.stack := fun z => by
      obtain ⟨_, o, e, _⟩ := I2.stack.mem z
      rw [newD] at e; cases e
    have I3p : Inv (cxC X scope cl N' C fp pins s₂ H2) [(D, { cls := .type "list", data := .seq items n0 })] σ3 H3 s3 := I3.pins_of fun p hp => by
      have e : p = (D, { cls := .type "list", data := .seq items n0 }) := by simpa using hp
      subst e
      exact ⟨ho, nD3, hDC, nfsD, fun v z => by cases z⟩
    have one : ∀ p ∈ [(D, ({ cls := .type "list", data := .seq items n0 } : Obj))], p.1 = D := fun p hp => by
      have e : p = (D, { cls := .type "list", data := .seq items n0 }) := by simpa using hp
      subst e; rfl
    rcases hw with ⟨stop, qn⟩ | ⟨go, step⟩
    · refine thn (T.done (cxC X scope cl N' C fp pins s₂ H2) rfl rfl rfl hc i _ s3 σ3 H3 (fun _ _ => False) I3p (statX one fr3) st3 stop) fun r s4 ⟨hr, I4⟩ => ?_
      subst hr
      obtain ⟨e4, nD4, _⟩ := I4.pin _ (List.mem_append_right _ (List.mem_singleton.mpr rfl))
      exact fin C D fp s₂ s4 H2 H3 _ σ3 items ys I2 f2 I4 ⟨n0, e4⟩ nD4 (hDD ▸ newD) hDC rv3 hz qn
    · refine thn (T.item (cxC X scope cl N' C fp pins s₂ H2) rfl rfl rfl hc i _ s3 σ3 H3 (fun _ _ => False) I3p (statX one fr3) st3 go) fun r s4 ⟨u, hr, h4⟩ => ?_
      subst hr
      refine thn h4 fun _ s5 ⟨x, H5, I5, r5, y5, st5, fr5⟩ => ?_
      have I5' := I5.pinned (statX one fr5) (T.obj _ _ st5)
      refine thn (hg C fp pins s₂ H2 _ s5 σ3 H5 x u _ I5' r5 (step x H5 y5)) fun _ s6 ⟨σ6, H6, I6, q6⟩ => ?_
      refine thn (ht C fp pins s₂ H2 _ s6 σ6 H6 _ I6 q6) fun b s7 ⟨H7, I7, q7⟩ => ?_
      have back : ∀ {H8 : Hp} {s8 : Shared}, Inv (cxC X scope cl N' C fp pins s₂ H2) ([(D, ({ cls := .type "list", data := .seq items n0 } : Obj))] ++ pinsAt fp s5.heap) σ6 H8 s8 →
          Inv (cxC X scope cl N' C fp pins s₂ H2) [] σ6 H8 s8 ∧ tn (i + 1) s8.heap ∧ (∀ b ∈ fp, H8 b = none) ∧ s8.heap.PlainList D items ∧ H8 D = none := fun {H8 s8} I8 => by
        refine ⟨I8.pins_of (fun p hp => nomatch hp), T.keep _ _ _ st5 fun b hb o e => (I8.pin (b, o) (List.mem_append_right _ (List.mem_append_right _ (mem_pinsAt hb e)))).1, fun b hb => ?_, ?_, ?_⟩
        · obtain ⟨o, e, d⟩ := T.obj _ _ st5 b hb
          exact (I8.pin (b, o) (List.mem_append_right _ (List.mem_append_right _ (mem_pinsAt hb e)))).2.1
        · exact ⟨n0, (I8.pin _ (List.mem_append_right _ (List.mem_append_left _ (List.mem_singleton.mpr rfl)))).1⟩
        · exact (I8.pin _ (List.mem_append_right _ (List.mem_append_left _ (List.mem_singleton.mpr rfl)))).2.1
      cases b with
      | false =>
        rw [if_neg Bool.false_ne_true] at q7
        obtain ⟨m', hm, w7⟩ := q7
        obtain ⟨J1, J2, J3, J4, J5⟩ := back I7
        rw [if_neg Bool.false_ne_true]
        exact ⟨m', hm, i + 1, σ6, ys, items, H7, J1, J2, J3, J4, rv3, J5, w7⟩
      | true =>
        rw [if_pos rfl] at q7
        rw [if_pos rfl]
        refine thn (he C fp pins s₂ H2 _ s7 σ6 H7 _ I7 q7) fun v s8 ⟨y, H8, I8, r8, m', hm, w8⟩ => ?_
        obtain ⟨J1, J2, J3, J4, J5⟩ := back I8
        have hit : items.size ≤ sizeLine := by
          have e : ys.length = items.size := by simpa using rv3.length
          omega
        refine wpAny_list_append_plain (hsz := hit) J4 fun h9 hl9 hs9 => ?_
        have nc : ∀ y c, cl.lookup y = some c → c ≠ D := fun y c e z => by
          obtain ⟨v, o, ho, _⟩ := I2.cell y c (cap.sub y c e)
          rw [z, newD] at ho; cases ho
        have np : ∀ p ∈ (X.pn ++ pins) ++ [], p.1 ≠ D := fun p hp z => by
          rw [List.append_nil] at hp
          have e := (I2.pin p hp).1
          rw [z, newD] at e; cases e
        have J9 : Inv (cxC X scope cl N' C fp pins s₂ H2) [] σ6 H8 { s8 with heap := h9 } := J1.turned (it := D) (t' := s8.toks) (fun b o hb e => hs9.extBut b o hb e) J5 hDC (.inr (Nat.le_of_eq hDD)) nc np
        refine ⟨m', hm, i + 1, σ6, ys ++ [y], items.push v, H8, J9, T.keep _ _ _ J2 fun b hb o e => hs9.extBut b o (fpD b hb) e, J3, hl9, ?_, J5, w8⟩
        rw [Array.toList_push]
        exact rv3.append (.cons r8 .nil)
  have I0 : Inv (cxC X scope cl N' C fp pins s₂ H2) [] (capSt caps σ) H2 { s₂ with heap := h₁, toks := s₂.toks + ([] : List (Str × Value)).length } :=
    inv_comp I2 f2 (fun b hb => hDD ▸ hfp b hb) hkind cap (by rw [hDD]; exact hCle) rfl I2.bare old hns₁ hN hcap
  have st0 : tn 0 h₁ := T.keep _ _ _ st2 fun b _ o e => old b o e
  have loop : ∀ s₃ : Shared, s₃ = { s₂ with heap := h₁, toks := s₂.toks + ([] : List (Str × Value)).length } →
      codeAny (model X.prog X.w) X.A (.compLoop (.ListComp elt [⟨tg, iter, ifs, 0⟩] scope pos) 0 (.ref it) (.ref D) (compEnvC scope cl C X.env)) (compPost (model X.prog X.w) X.A X.xe use QQ (.ref D) C) s₃ := by
    rintro s₃ rfl
    exact compLoop_own _ ht' m0 ⟨0, _, [], #[], H2, I0, st0, fun b hb => (f2 b hb).1, hacc, .nil, nD2, w0⟩
  exact codeAny_compStart_list (loop _ rfl) (T.self X.A 0 _ _ _ st0 (loop _ rfl))
theorem pe_comp {X : Cx} {tg elt iter : Expr} {ifs : List Expr} {scope : Scope} {pos : Pos} {wi : TI} {g : TG} {tt : TT} {te : TE} {cl : List (Str × Addr)} (N' : List Str) (caps : List (Option Nat)) (hc : X.calm = true) (hi : PI X tg iter wi)
    (hg : ∀ C fp pins s2 H2, PG (cxC X scope cl N' C fp pins s2 H2) tg g) (ht : ∀ C fp pins s2 H2, PIfs (cxC X scope cl N' C fp pins s2 H2) ifs tt) (he : ∀ C fp pins s2 H2, PE (cxC X scope cl N' C fp pins s2 H2) elt te)
    (cap : CapOk X scope cl) (hcell : ∀ y ∈ scope.names, y.2 ≠ .cell) (hkind : scope.kind = .function) (hnames : ∀ y ∈ scope.names, y.2 = .local → scope.names.lookup y.1 = some .local) (hN : caps.length = N'.length)
    (hcap : ∀ (i j : Nat), caps[i]? = some (some j) → ∃ y : Str, N'[i]? = some y ∧ X.N[j]? = some y ∧ (relabel scope X.env).names.lookup y = some .cell ∧ X.env.scope.names.lookup y = some .cell)
    (hs : ∀ x, foldedSetIterable iter X.env x = pure x := by intro _; rfl) :
    PE X (.ListComp elt [⟨tg, iter, ifs, 0⟩] scope pos) (tComp wi g tt te caps) := by
  intro pins s σ H Q I h
  rw [eval_ListComp]
  refine comp_run (use := none) N' caps hc hi hg ht he cap hcell hkind hnames hN hcap hs (fun C D fp s2 s4 H2 H4 pl σ' items ys I2 f2 I4 hpl nD newD hDC rv hz qn => ?_) I h
  obtain ⟨m, hn, _⟩ := I4.loc
  exact ⟨m, hn, fun h' sb => ⟨.ref D, _, comp_end I2 f2 I4 hpl nD newD hDC rv hz sb, rfl, qn D nD⟩⟩
end L2
namespace L2
open PySem PySem.Spec PyProof.Rows
theorem SqT.keep {K : PySem.W.Frag} {H H' : Hp} {a : Addr} {xs : List V} (s : Same H H') (h : SqT K H a xs) : SqT K H' a xs := by
  rcases h with (h | ⟨o, h⟩) | h
  · exact .inl (.inl (s _ _ h))
  · exact .inl (.inr ⟨o, s _ _ h⟩)
  · exact .inr h
theorem SqL.keep {K : PySem.W.Frag} {H H' : Hp} {a : Addr} {xs : List V} (s : Same H H') (h : SqL K H a xs) : SqL K H' a xs := s.seq h
mutual
theorem DV.keep {K : PySem.W.Frag} {H H' : Hp} (s : Same H H') : ∀ {v : V} {d : PyData}, DV K H v d → DV K H' v d
  | _, _, .non => .non
  | _, _, .bl b => .bl b
  | _, _, .int i => .int i
  | _, _, .str x => .str x
  | _, _, .lst h q => .lst (h.keep s) (DVs.keep s q)
  | _, _, .tup h q => .tup (h.keep s) (DVs.keep s q)
  | _, _, .dct h => .dct (s _ _ h)
theorem DVs.keep {K : PySem.W.Frag} {H H' : Hp} (s : Same H H') : ∀ {vs : List V} {ds : List PyData}, DVs K H vs ds → DVs K H' vs ds
  | _, _, .nil => .nil
  | _, _, .cons h q => .cons (DV.keep s h) (DVs.keep s q)
end
section
variable {K : PySem.W.Frag} {H : Hp} {v : V} {vs : List V} {d d1 d2 d3 d4 : PyData} {ds : List PyData}
theorem DVs.len : ∀ {vs : List V} {ds : List PyData}, DVs K H vs ds → vs.length = ds.length
  | _, _, .nil => rfl
  | _, _, .cons _ q => by rw [List.length_cons, List.length_cons, DVs.len q]
theorem DVs.nil_of (h : DVs K H vs []) : vs = [] := by cases h; rfl
theorem DVs.cons_of (h : DVs K H vs (d :: ds)) : ∃ x xs, vs = x :: xs ∧ DV K H x d ∧ DVs K H xs ds := by
  cases h with
  | cons h q => exact ⟨_, _, rfl, h, q⟩
theorem DV.tup_of (h : DV K H v (.tuple ds)) : ∃ a xs, v = .ref a ∧ SqT K H a xs ∧ DVs K H xs ds := by
  cases h with
  | tup h q => exact ⟨_, _, rfl, h, q⟩
theorem DV.lst_of (h : DV K H v (.list ds)) : ∃ a xs, v = .ref a ∧ SqL K H a xs ∧ DVs K H xs ds := by
  cases h with
  | lst h q => exact ⟨_, _, rfl, h, q⟩
theorem DVs.one (h : DVs K H vs [d1]) : ∃ x, vs = [x] ∧ DV K H x d1 := by
  cases h with
  | cons h q => cases q; exact ⟨_, rfl, h⟩
theorem DVs.two (h : DVs K H vs [d1, d2]) : ∃ x y, vs = [x, y] ∧ DV K H x d1 ∧ DV K H y d2 := by
  cases h with
  | cons h q =>
    obtain ⟨y, rfl, hy⟩ := q.one
    exact ⟨_, _, rfl, h, hy⟩
theorem DVs.three (h : DVs K H vs [d1, d2, d3]) : ∃ x y z, vs = [x, y, z] ∧ DV K H x d1 ∧ DV K H y d2 ∧ DV K H z d3 := by
  cases h with
  | cons h q =>
    obtain ⟨y, z, rfl, hy, hz⟩ := q.two
    exact ⟨_, _, _, rfl, h, hy, hz⟩
theorem DVs.four (h : DVs K H vs [d1, d2, d3, d4]) : ∃ x y z u, vs = [x, y, z, u] ∧ DV K H x d1 ∧ DV K H y d2 ∧ DV K H z d3 ∧ DV K H u d4 := by
  cases h with
  | cons h q =>
    obtain ⟨y, z, u, rfl, hy, hz, hu⟩ := q.three
    exact ⟨_, _, _, _, rfl, h, hy, hz, hu⟩
theorem DV.t2 (h : DV K H v (.tuple [d1, d2])) : ∃ a x y, v = .ref a ∧ SqT K H a [x, y] ∧ DV K H x d1 ∧ DV K H y d2 := by
  obtain ⟨a, xs, rfl, ha, q⟩ := h.tup_of
  obtain ⟨x, y, rfl, hx, hy⟩ := q.two
  exact ⟨a, x, y, rfl, ha, hx, hy⟩
theorem DV.t3 (h : DV K H v (.tuple [d1, d2, d3])) : ∃ a x y z, v = .ref a ∧ SqT K H a [x, y, z] ∧ DV K H x d1 ∧ DV K H y d2 ∧ DV K H z d3 := by
  obtain ⟨a, xs, rfl, ha, q⟩ := h.tup_of
  obtain ⟨x, y, z, rfl, hx, hy, hz⟩ := q.three
  exact ⟨a, x, y, z, rfl, ha, hx, hy, hz⟩
theorem DV.t4 (h : DV K H v (.tuple [d1, d2, d3, d4])) : ∃ a x y z u, v = .ref a ∧ SqT K H a [x, y, z, u] ∧ DV K H x d1 ∧ DV K H y d2 ∧ DV K H z d3 ∧ DV K H u d4 := by
  obtain ⟨a, xs, rfl, ha, q⟩ := h.tup_of
  obtain ⟨x, y, z, u, rfl, hx, hy, hz, hu⟩ := q.four
  exact ⟨a, x, y, z, u, rfl, ha, hx, hy, hz, hu⟩
theorem DV.int_of {i : Int} (h : DV K H v (.int i)) : v = .int i := by cases h; rfl
theorem DV.str_of {x : Str} (h : DV K H v (.str x)) : v = .str x := by cases h; rfl
theorem DV.bl_of {b : Bool} (h : DV K H v (.bool b)) : v = .bl b := by cases h; rfl
theorem DV.non_of (h : DV K H v .none) : v = .non := by cases h; rfl
theorem DVs.get : ∀ {vs : List V} {ds : List PyData} {i : Nat} {v : V}, DVs K H vs ds → vs[i]? = some v → ∃ d, ds[i]? = some d ∧ DV K H v d
  | _, _, _, _, .nil, e => by simp at e
  | _, _, 0, _, .cons h _, e => by simp at e; subst e; exact ⟨_, rfl, h⟩
  | _, _, i + 1, v, .cons _ q, e => by
    obtain ⟨d, h1, h2⟩ := DVs.get (i := i) (v := v) q (by simpa using e)
    exact ⟨d, by simpa using h1, h2⟩
theorem DVs.append : ∀ {vs ws : List V} {ds es : List PyData}, DVs K H vs ds → DVs K H ws es → DVs K H (vs ++ ws) (ds ++ es)
  | _, _, _, _, .nil, q => q
  | _, _, _, _, .cons h t, q => .cons h (DVs.append t q)
theorem DVs.take : ∀ {vs : List V} {ds : List PyData} (n : Nat), DVs K H vs ds → DVs K H (vs.take n) (ds.take n)
  | _, _, 0, _ => .nil
  | _, _, _ + 1, .nil => .nil
  | _, _, n + 1, .cons h t => .cons h (DVs.take n t)
theorem DVs.drop : ∀ {vs : List V} {ds : List PyData} (n : Nat), DVs K H vs ds → DVs K H (vs.drop n) (ds.drop n)
  | _, _, 0, h => h
  | _, _, _ + 1, .nil => .nil
  | _, _, n + 1, .cons _ t => DVs.drop n t
end
def tyD : PyData → String
  | .none => "NoneType"
  | .bool _ => "bool"
  | .int _ => "int"
  | .str _ => "str"
  | .list _ => "list"
  | .tuple _ => "tuple"
  | .dict _ => "dict"
section
variable {X : Cx}
theorem call_isiD : CallR X (.builtin "isinstance") (fun xs H Q => ∃ x d c b, xs = [x, .ty c] ∧ DV X.K H x d ∧ bsub (tyD d) c = some b ∧ Q (.bl b) H) := by
  intro pins s σ H xs us Q I r h
  obtain ⟨x, d, c, b, rfl, hd, e, q⟩ := h
  obtain ⟨u, v, rfl, ru, rv⟩ := vals2 r
  cases (show v = Value.type c from rv)
  have e' := kit_b (K := X.K) e
  have fin : ∀ tk, EP X pins σ Q (.bool b) { s with toks := tk } := fun tk => ⟨.bl b, H, I.tok _, rfl, q⟩
  cases hd with
  | non => exact isinst_ok I ru .non e' fin
  | bl b => exact isinst_ok I ru (.bl b) e' fin
  | int i => exact isinst_ok I ru (.int i) e' fin
  | str x => exact isinst_ok I ru (.str x) e' fin
  | lst h _ =>
    cases ru
    obtain ⟨its, rv, ⟨o, n, e1, e2, _⟩, _⟩ := I.list h
    exact PySem.W.kia_one PySem.W.kitx_list I.kIn ⟨o, e1, e2⟩ e' (fun z => nomatch z) fin
  | tup h _ =>
    cases ru
    obtain ⟨its, rv, ⟨o, e1, e2, _⟩, _⟩ := I.tuple h
    exact PySem.W.kia_one PySem.W.kitx_tuple I.kIn ⟨o, e1, e2⟩ e' (fun z => nomatch z) fin
  | dct h => exact isinst_ok I ru (.dK h) e' fin
end
section
variable {X : Cx} {K : PySem.W.Frag}
theorem op_eqDK (hu : X.A.units + 64 < cLine) (hK : X.K = K := by rfl) : OpR X (compareOp .Eq) (rEqD K) := hK ▸ op_eqD hu
end
def Ite (K : PySem.W.Frag) (a : Addr) : It :=
  ⟨fun i H => ∃ xs x, SqL K H a xs ∧ xs[i]? = some x, fun i H x H' => ∃ p v, H p = none ∧ x = .ref p ∧ (∀ xs, SqL K H a xs → xs[i]? = some v) ∧ H' = upd H p (.tup [.int i, v]), fun i H => ∃ xs, SqL K H a xs ∧ xs.length ≤ i⟩
theorem turn_enum {P : Program} {w : World} {K : PySem.W.Frag} {elts : List Expr} {x1} {tpos : Pos} (a e it : Addr) (hne : e ≠ it) : Turn P w K (.Tuple elts x1 tpos) (Ite K a) [e, it] e (fun i h => (∃ old, IsEnum h e it (i : Int) old) ∧ h.IsListIter it a i) where
  mem := by simp
  obj := fun i h ⟨⟨old, st⟩, o', e', c', d'⟩ b hb => by
    rcases List.mem_cons.mp hb with z | z
    · subst z
      exact ⟨_, st, fun v q => by cases q⟩
    · have z : b = it := by simpa using z
      subst z
      exact ⟨o', e', fun v q => by rw [d'] at q; cases q⟩
  keep := fun i h h' ⟨⟨old, st⟩, st'⟩ k => ⟨⟨old, k e (by simp) _ st⟩, st'.at fun o q => k it (by simp) o q⟩
  item := by
    intro X hP hw hK hc i pins s σ H E I hf ⟨⟨old, st⟩, st'⟩ hg
    subst hP hw hK
    obtain ⟨xs, x, hq, hx⟩ := hg
    obtain ⟨its, rv, p, hz⟩ := I.list hq
    obtain ⟨u, hu, ru⟩ := rv.get hx
    obtain ⟨f0, f1, f2, f3, f4, f5⟩ := hf e (by simp)
    obtain ⟨g0, g1, g2, g3, g4, g5⟩ := hf it (by simp)
    refine wpAny_pyNext_enum_item st st' p.isList (x := u) (by simpa using hu) hne fun h1 heo hit1 ht1 hz1 hk1 => ?_
    refine ⟨_, rfl, ?_⟩
    refine wpAny_letOwnedTupleGo_enum heo fun h2 he2 hs2 => ?_
    have nep : ∀ b o, s.heap.get? b = some o → b ≠ s.heap.objs.size := fun b o q => Nat.ne_of_lt (Heap.lt_size q)
    have k2 : ∀ b o, b ≠ e → b ≠ it → s.heap.get? b = some o → h2.get? b = some o := fun b o h1' h2' q => hs2.extBut b o h1' (hk1 b o h1' h2' q)
    have nt : ∀ b o, H b = some o → b ≠ e ∧ b ≠ it := fun b o q => ⟨(fun z => by rw [z, f0] at q; cases q), fun z => by rw [z, g0] at q; cases q⟩
    have hp0 : H s.heap.objs.size = none := I.hok.fresh (Nat.le_refl _)
    have htp : h2.get? s.heap.objs.size = some { cls := .type "tuple", data := .seq #[.int i s.toks, u] } := hs2.extBut _ _ (Nat.ne_of_gt (Heap.lt_size st)) ht1
    have J : Inv X pins σ (upd H s.heap.objs.size (.tup [.int i, x])) { s with heap := h2, toks := s.toks + 1 } := by
      refine I.step (g' := s.gens) (d' := s.drawn) (ch := [e, it]) (fun b hb => ?_) (fun b o _ _ hc' q n => k2 b o (fun z => hc' (by simp [z])) (fun z => hc' (by simp [z])) q) (fun b o _ _ hc' q n => ⟨o.slots, k2 b o (fun z => hc' (by simp [z])) (fun z => hc' (by simp [z])) q⟩)
        (fun b o _ q n => by rw [upd_ne (nep b o q)]; exact n) (fun b o hc' q => ⟨o, k2 b o (fun z => hc' (by simp [z])) (fun z => hc' (by simp [z])) q⟩)
        (fun b ys q => by rw [upd_ne (ne_of_none q hp0)]; exact q) (fun b o y q => by rw [upd_ne (ne_of_none q hp0)]; exact q) (fun b ps q => ⟨#[], by rw [upd_ne (ne_of_none q hp0), q]; simp⟩) (fun m hm => ?_) (fun b o q => ?_) I.bare
      · rcases List.mem_cons.mp hb with z | z
        · subst z; exact ⟨f3, f1, f4, f5⟩
        · have z : b = it := by simpa using z
          subst z; exact ⟨g3, g1, g4, g5⟩
      · obtain ⟨o, es, ep, ho, r⟩ := hm
        exact ⟨o, es, ep, k2 _ o (Ne.symm f1) (Ne.symm g1) ho, r⟩
      · by_cases hb : b = s.heap.objs.size
        · subst hb
          rw [upd_same] at q
          cases q
          exact ⟨by show 2 ≤ sizeLine; decide, [.int i s.toks, u], .cons ⟨_, rfl⟩ (.cons ru .nil), _, htp, rfl, _, rfl⟩
        · rw [upd_ne hb] at q
          refine (I.hok b o q).stay (fun c v hc' z => k2 c v ?_ ?_ z) (fun c z => by rw [upd_ne (ne_of_none z hp0)]; exact z) fun c ys z => by rw [upd_ne (ne_of_none z hp0)]; exact z
          · rcases hc' with z | z
            · rw [z]; exact (nt b o q).1
            · exact (nt c _ z).1
          · rcases hc' with z | z
            · rw [z]; exact (nt b o q).2
            · exact (nt c _ z).2
    refine ⟨.ref s.heap.objs.size, _, J, rfl, ⟨s.heap.objs.size, x, hp0, rfl, (fun ys hy => by rw [I.list_inj hy hq]; exact hx), rfl⟩, ⟨⟨u, ?_⟩, ?_⟩, fun b hb => ?_⟩
    · have z : ((i + 1 : Nat) : Int) = (i : Int) + 1 := by push_cast; rfl
      rw [z]; exact he2
    · exact hit1.extBut hs2.extBut (Ne.symm hne)
    · rcases List.mem_cons.mp hb with z | z
      · subst z
        rw [upd_ne (nep _ _ st)]; exact f0
      · have z : b = it := by simpa using z
        subst z
        obtain ⟨o, q, _⟩ := st'
        rw [upd_ne (nep _ _ q)]; exact g0
  done := by
    intro X hP hw hK hc i pins s σ H E I hf ⟨⟨old, st⟩, st'⟩ hg
    subst hP hw hK
    obtain ⟨xs, hq, hx⟩ := hg
    obtain ⟨its, rv, p, hz⟩ := I.list hq
    obtain ⟨g0, g1, g2, g3, g4, g5⟩ := hf it (by simp)
    have hl := rv.length
    exact wpAny_pyNext_enum_end (I.ok.hd hc) st st' p.isList (by simp; omega) fun h' eb => ⟨rfl, I.turned (t' := s.toks) (fun b o hb e => eb b o hb e) g0 g1 g3 g4 g5⟩
  self := fun _ _ _ _ _ ⟨⟨old, st⟩, _⟩ h => wpAny_pyIter_enum st h
section
variable {X : Cx} {elts : List Expr} {x1 : Nat} {tpos : Pos}
def iEnum (K : PySem.W.Frag) (ta : TA) : TI := fun σ H R => ta σ H fun vs H1 => ∃ a, vs = [.ref a] ∧ (∃ xs, SqL K H1 a xs) ∧ R (Ite K a) H1
theorem pi_enum {a : Expr} {ta : TA} {p pos : Pos} (hg : Gl X "enumerate") (hm : X.mg "enumerate" = none) (ha : PA X [a] ta) (hs : starEach [a] X.env = [(false, eval a X.env)] := by rfl) : PI X (.Tuple elts x1 tpos) (.Call (.Name "enumerate" p) [a] [] pos) (iEnum X.K ta) := by
  intro pins s σ H R I h
  refine Call_ (ld_blt I hg hm boot_enumerate (PyProof.Rows.callWith_type1 (thn (ha pos pins s σ H _ I h) fun us s1 ⟨vs, H1, I1, r1, q1⟩ => ?_) hs rfl))
  obtain ⟨a, e, ⟨xs, hq⟩, q⟩ := q1
  subst e
  obtain ⟨u, rfl, r⟩ := vals1 r1
  cases r
  obtain ⟨its, rv, p, hz⟩ := I1.list hq
  refine call_enumerate_list p.isList fun h' he hi hsz hk => ?_
  have I2 : Inv X pins σ H1 { s1 with heap := h' } := I1.kept (t' := s1.toks) hk
  refine wpAny_pyIter_enum he ⟨s1.heap.objs.size + 1, [s1.heap.objs.size + 1, s1.heap.objs.size], _, _, H1, rfl, I2, turn_enum a _ _ (Nat.succ_ne_self _), ⟨⟨_, he⟩, hi⟩, fun b hb => ?_, q⟩
  rcases List.mem_cons.mp hb with z | z
  · subst z
    exact I1.fpOk (Nat.le_succ _) (I1.hok.fresh (Nat.le_succ _))
  · have z : b = s1.heap.objs.size := by simpa using z
    subst z
    exact I1.fpOk (Nat.le_refl _) (I1.hok.fresh (Nat.le_refl _))
end
theorem for_enum {K : PySem.W.Frag} {a : Addr} {xs : List V} {g : TG} {tb : TS} {D : Ends} {σ : St} {H : Hp} (Pv : Nat → St → Hp → Prop) (h0 : Pv 0 σ H) (hl : ∀ i σ H, i ≤ xs.length → Pv i σ H → SqL K H a xs)
    (hs : ∀ i x σ H p, xs[i]? = some x → Pv i σ H → H p = none → g (.ref p) σ (upd H p (.tup [.int i, x])) fun σ2 H2 => tb { D with nx := Pv (i + 1), ct := Pv (i + 1), bk := D.nx } σ2 H2) (hd : ∀ σ H, Pv xs.length σ H → D.nx σ H) :
    ∃ W : Nat → Nat → St → Hp → Prop, (∃ m, W 0 m σ H) ∧ ∀ i m σ H, W i m σ H →
      ((Ite K a).stop i H ∧ D.nx σ H) ∨ ((Ite K a).go i H ∧ ∃ N : St → Hp → Prop, (∀ σ' H', N σ' H' → ∃ m', m' < m ∧ W (i + 1) m' σ' H') ∧ ∀ x H', (Ite K a).yld i H x H' → g x σ H' fun σ2 H2 => tb { D with nx := N, ct := N, bk := D.nx } σ2 H2) := by
  refine ⟨fun i m σ H => m = xs.length - i ∧ i ≤ xs.length ∧ Pv i σ H, ⟨xs.length, by simp, Nat.zero_le _, h0⟩, ?_⟩
  rintro i m σ H ⟨rfl, hi, p⟩
  have q := hl i σ H hi p
  by_cases hlt : i < xs.length
  · refine .inr ⟨⟨xs, xs[i], q, by simp [hlt]⟩, Pv (i + 1), fun σ' H' p' => ⟨xs.length - (i + 1), by omega, rfl, hlt, p'⟩, fun x H' y => ?_⟩
    obtain ⟨r, v, n, rfl, y, rfl⟩ := y
    exact hs i v σ H r (y xs q) p n
  · have e : i = xs.length := by omega
    subst e
    exact .inl ⟨⟨xs, q, Nat.le_refl _⟩, hd σ H p⟩
def Nx (n : Nat) (Pv : Nat → St → List V → Hp → Prop) (i : Nat) (σ : St) (ys : List V) (H : Hp) : Prop := ∃ m', m' < n - i ∧ (m' = n - (i + 1) ∧ i + 1 ≤ n ∧ Pv (i + 1) σ ys H)
theorem nx {n : Nat} {Pv : Nat → St → List V → Hp → Prop} {i : Nat} {σ : St} {ys : List V} {H : Hp} (hi : i < n) (h : Pv (i + 1) σ ys H) : Nx n Pv i σ ys H := ⟨n - (i + 1), by omega, rfl, hi, h⟩
theorem lt_of_get {α : Type} {xs : List α} {i : Nat} {x : α} (h : xs[i]? = some x) : i < xs.length := (List.getElem?_eq_some_iff.mp h).1
theorem comp_tup {K : PySem.W.Frag} {a : Addr} {xs : List V} {g : TG} {tt : TT} {te : TE} {Q : VK} {σ : St} {H : Hp} (Pv : Nat → St → List V → Hp → Prop) (h0 : Pv 0 σ [] H) (hz : ∀ i σ ys H, i ≤ xs.length → Pv i σ ys H → ys.length ≤ sizeLine ∧ SqT K H a xs)
    (hs : ∀ i x σ ys H, xs[i]? = some x → Pv i σ ys H → g x σ H fun σ2 H2 => tt σ2 H2 fun b H3 => if b = true then te σ2 H3 fun y H4 => Nx xs.length Pv i σ2 (ys ++ [y]) H4 else Nx xs.length Pv i σ2 ys H3)
    (hd : ∀ σ ys H p, Pv xs.length σ ys H → H p = none → Q (.ref p) (upd H p (.lst ys))) :
    tCompB g tt te (Itt K a) σ H Q := by
  refine ⟨fun i m σ ys H => m = xs.length - i ∧ i ≤ xs.length ∧ Pv i σ ys H, ⟨xs.length, by simp, Nat.zero_le _, h0⟩, ?_⟩
  rintro i m σ' ys H ⟨rfl, hi, p⟩
  obtain ⟨z, q⟩ := hz i σ' ys H hi p
  refine ⟨z, ?_⟩
  by_cases hlt : i < xs.length
  · refine .inr ⟨⟨xs, xs[i], q, by simp [hlt]⟩, fun x H' y => ?_⟩
    obtain ⟨rfl, y⟩ := y
    exact hs i x σ' ys _ (y xs q) p
  · have e : i = xs.length := by omega
    subst e
    exact .inl ⟨⟨xs, q, Nat.le_refl _⟩, fun r n => hd σ' ys _ r p n⟩
theorem comp_tup0 {K : PySem.W.Frag} {a : Addr} {xs : List V} {g : TG} {te : TE} {Q : VK} {σ : St} {H : Hp} (Pv : Nat → St → List V → Hp → Prop) (h0 : Pv 0 σ [] H) (hz : ∀ i σ ys H, i ≤ xs.length → Pv i σ ys H → ys.length ≤ sizeLine ∧ SqT K H a xs)
    (hs : ∀ i x σ ys H, xs[i]? = some x → Pv i σ ys H → g x σ H fun σ2 H2 => te σ2 H2 fun y H4 => Nx xs.length Pv i σ2 (ys ++ [y]) H4)
    (hd : ∀ σ ys H p, Pv xs.length σ ys H → H p = none → Q (.ref p) (upd H p (.lst ys))) : tCompB g tYes te (Itt K a) σ H Q :=
  comp_tup Pv h0 hz (fun i x σ ys H hx hp => by
    have := hs i x σ ys H hx hp
    simpa only [tYes, if_true] using this) hd
theorem nocap {caps : List (Option Nat)} {P : Nat → Nat → Prop} (h : caps.all (·.isNone) = true) : ∀ i j, caps[i]? = some (some j) → P i j := fun i j e => by
  have := List.all_eq_true.mp h _ (List.mem_of_getElem? e)
  cases this
end L2
namespace L2
open PySem PySem.Spec PyProof.Rows
theorem RoomB.room {k : Nat} {A : Around} (r : RoomB true k A) : Room k A := ⟨r.hd rfl, r.dp, r.un⟩
structure MC (P : Program) (w : World) (K : PySem.W.Frag) (mg : Str → Option Value) (base : Heap) (k : Nat) (C : Addr) (m : Str) (ps : List Str) (sp : Sp) : Prop where
  ex : ∃ (f : Addr) (fd : FuncData), FnB P w K mg base true k f fd ps sp ∧ Meth K C m f ∧ Binds K fd ps []
  cl : Cls K C
structure MtFn (K : PySem.W.Frag) (C : Addr) (m qual : Str) (st : Stmt) : Prop where
  ex : ∃ (f : Addr) (fd : FuncData), Fun K m qual st f fd ∧ Meth K C m f
  cl : Cls K C
theorem MtFn.mc {P : Program} {w : World} {K : PySem.W.Frag} {mg : Str → Option Value} {base : Heap} {C : Addr} {m qual : Str} {st : Stmt} {N ps : List Str} {k : Nat} {sp : Sp} (T : MtFn K C m qual st) (S : FnScope N ps (defScope st))
    (hb : ∀ (kV doc pm : Value) (an : Option Addr) (cdv ct : Value) (us : List Value), us.length = ps.length → bindArgs (PySem.W.fnOf m qual (defArgs st) (defBody st) (defScope st) .none kV doc pm an cdv ct) ⟨us, []⟩ = pure (ps.zip us))
    (len : ∀ vs H Q E, sp vs H Q E → vs.length = ps.length)
    (hbody : ∀ (f : Addr) (cdv : Value) (A : Around) (outer : List Env) (s : Shared) (H : Hp) (vs : List V) (Q : VK) (E : XK), RoomB true k (A.deeper (envOfC qual (defScope st) s.heap.objs.size f cdv)) → sp vs H Q E →
      ∃ t, PSs (cxB true P w K mg base N qual (defScope st) f cdv A outer s H E).nox (defBody st) t ∧ t { nx := fun _ H' => Q .non H', rt := Q } (start N vs) H) : MC P w K mg base (k + 1) C m ps sp := by
  obtain ⟨f, fd, F, hm⟩ := T.ex
  obtain ⟨oc, od, kV, doc, pm, an, cdv, ct, osl, rfl, l, cd⟩ := id F.ex
  refine ⟨⟨f, _, fnB_of l cd S len fun A outer s H vs Q E hr h => ?_, hm, F.binds hb⟩, T.cl⟩
  obtain ⟨t, h1, h2⟩ := hbody f cdv A outer s H vs Q E hr h
  exact ⟨t, h1.nox, h2⟩
structure MkC (P : Program) (w : World) (K : PySem.W.Frag) (mg : Str → Option Value) (base : Heap) (k : Nat) (x : Str) (C : Addr) (ps : List Str) (sp : Sp) : Prop where
  ex : ∃ (f : Addr) (fd : FuncData), FnB P w K mg base true k f fd ps sp ∧ Mk K C f ∧ Binds K fd ps []
  mg : mg x = some (.ref C)
structure MkFn (K : PySem.W.Frag) (mg : Str → Option Value) (x : Str) (C : Addr) (qual : Str) (st : Stmt) : Prop where
  ex : ∃ (f : Addr) (fd : FuncData), Fun K "__init__" qual st f fd ∧ Mk K C f
  mg : mg x = some (.ref C)
theorem MkFn.mkc {P : Program} {w : World} {K : PySem.W.Frag} {mg : Str → Option Value} {base : Heap} {x : Str} {C : Addr} {qual : Str} {st : Stmt} {N ps : List Str} {k : Nat} {sp : Sp} (T : MkFn K mg x C qual st) (S : FnScope N ps (defScope st))
    (hb : ∀ (kV doc pm : Value) (an : Option Addr) (cdv ct : Value) (us : List Value), us.length = ps.length → bindArgs (PySem.W.fnOf "__init__" qual (defArgs st) (defBody st) (defScope st) .none kV doc pm an cdv ct) ⟨us, []⟩ = pure (ps.zip us))
    (len : ∀ vs H Q E, sp vs H Q E → vs.length = ps.length)
    (hbody : ∀ (f : Addr) (cdv : Value) (A : Around) (outer : List Env) (s : Shared) (H : Hp) (vs : List V) (Q : VK) (E : XK), RoomB true k (A.deeper (envOfC qual (defScope st) s.heap.objs.size f cdv)) → sp vs H Q E →
      ∃ t, PSs (cxB true P w K mg base N qual (defScope st) f cdv A outer s H E).nox (defBody st) t ∧ t { nx := fun _ H' => Q .non H', rt := Q } (start N vs) H) : MkC P w K mg base (k + 1) x C ps sp := by
  obtain ⟨f, fd, F, hm⟩ := T.ex
  obtain ⟨oc, od, kV, doc, pm, an, cdv, ct, osl, rfl, l, cd⟩ := id F.ex
  refine ⟨⟨f, _, fnB_of l cd S len fun A outer s H vs Q E hr h => ?_, hm, F.binds hb⟩, T.mg⟩
  obtain ⟨t, h1, h2⟩ := hbody f cdv A outer s H vs Q E hr h
  exact ⟨t, h1.nox, h2⟩
section
variable {X : Cx} {k : Nat} {C : Addr} {ps : List Str} {sp : Sp} {x m : Str} {p pos apos : Pos} {e o : Expr} {es : List Expr} {ta : TE} {t : TA}
def tMB (P : Program) (w : World) (K : PySem.W.Frag) (mg : Str → Option Value) (base : Heap) (k : Nat) (m : Str) (ta : TE) (t : TA) : TE := fun σ H Q => ta σ H fun x H1 => ∃ a C dx fs ps sp, x = .ref a ∧ H1 a = some (.ins C dx fs) ∧ fs.lookup m = none ∧
  MC P w K mg base k C m ps sp ∧ t σ H1 fun vs H2 => sp (x :: vs) H2 Q E0
theorem pe_mB {pl : Sem Bool} (he : PE X o ta) (hr : RoomB true k X.A) (ha : PA X (e :: es) t)
    (hst : starEach (e :: es) X.env = (false, eval e X.env) :: starEach es X.env := by rfl) (hpl : (backTo pos (starEach es X.env)).any (·.1) = false := by rfl)
    (ht : eval (.Call (.Attribute o m apos) (e :: es) [] pos) X.env = (do
      let ov ← eval o X.env
      standAt apos.atName
      let (f, first) ← holding [ov] (getMethod ov m pl)
      callWith pos f first (backTo pos (starEach (e :: es) X.env)) (backToKw pos (keywordEach [] X.env))) := by rfl) :
    PE X (.Call (.Attribute o m apos) (e :: es) [] pos) (tMB X.prog X.w X.K X.mg X.base k m ta t) := by
  intro pins s σ H Q I h
  refine PySem.W.methodCall_KW (pl := pl) (thn (he pins s σ H _ I h) fun u s1 ⟨x, H1, I1, rx, a, C, dx, fs, ps, sp, ex, ea, l, M, q⟩ => ?_) ht
  subst ex
  obtain rfl : u = Value.ref a := rx
  obtain ⟨f, fd, F, hm, hb⟩ := M.ex
  refine getmeth_ok I1 ea M.cl hm l ?_
  refine PySem.W.callWith_K (first := [.ref a]) (h₀ := X.base) I.ok.mod.kin hm.kp (thn (ha pos pins s1 σ H1 _ I1 q) fun us s2 ⟨vs, H2, I2, r, q2⟩ => ⟨I2.kIn, ?_⟩) hst hpl
  exact run_fn (us := .ref a :: us) (vs := .ref a :: vs) (dvs := []) (ds := []) (E := E0) F.ok hr.room hb .nil pass01 I2 (.cons rfl r) (by rw [List.append_nil]; exact q2)
theorem pe_mkB (M : MkC X.prog X.w X.K X.mg X.base k x C ps sp) (hr : RoomB true (k + 1) X.A) (ha : PA X (e :: es) t) (hg : Gl X x := by rfl) (hdb : (x == ("__debug__" : Str)) = false := by decide)
    (he : starEach (e :: es) X.env = (false, eval e X.env) :: starEach es X.env := by rfl) (hpl : (backTo pos (starEach es X.env)).any (·.1) = false := by rfl) :
    PE X (.Call (.Name x p) (e :: es) [] pos) (tMake C sp [] E0 t) := by
  obtain ⟨f, fd, F, hm, hb⟩ := M.ex
  exact pe_make hm F.ok hr.room hg M.mg hb .nil pass01 ha hdb he hpl
theorem pe_fldB {f : Str} (he : PE X e ta) (hb : attributeBase e f X.env (eval e X.env) = eval e X.env := by rfl) : PE X (.Attribute e f pos) (tFld X.K ta f) := pe_fld he hb
theorem ps_fldB {f : Str} {pos' : Pos} {value : Expr} {tv : TE} (ha : PE X o ta) (hv : PE X value tv) (hs : swapsWith value (some (.Attribute o f pos')) pos.line X.env = pure false := by rfl) : PS X (.Assign [.Attribute o f pos'] value pos) (sFld X.K ta tv f) := ps_fld ha hv hs
end
end L2
namespace L2
open PySem PySem.Spec PyProof.Rows
end L2
namespace Fr
theorem num_den_le {r : Rat} {t b : Int} (h : b ≠ 0) (e : r = Rat.divInt t b) : r.num.natAbs ≤ t.natAbs ∧ r.den ≤ b.natAbs := by
  subst e
  have h1 := lt_abs t b h
  have h2 := lb_abs (t := t) h
  rw [lt_num h] at h1
  rw [lb_den h, Int.natAbs_natCast] at h2
  exact ⟨h1, h2⟩
structure Bd (k : Nat) (q : Rat) : Prop where
  n : q.num.natAbs < 2 ^ k
  d : q.den < 2 ^ k
theorem pow_le {m n : Nat} (h : m ≤ n) : 2 ^ m ≤ 2 ^ n := Nat.pow_le_pow_right (by decide) h
theorem Bd.mono {m n : Nat} {q : Rat} (h : Bd m q) (le : m ≤ n) : Bd n q := ⟨Nat.lt_of_lt_of_le h.n (pow_le le), Nat.lt_of_lt_of_le h.d (pow_le le)⟩
theorem Bd.neg {n : Nat} {q : Rat} (h : Bd n q) : Bd n (-q) := ⟨by rw [Rat.neg_num, Int.natAbs_neg]; exact h.n, by rw [Rat.neg_den]; exact h.d⟩
theorem Bd.of {n : Nat} {t b : Int} (b0 : b ≠ 0) (ht : t.natAbs < 2 ^ n) (hb : b.natAbs < 2 ^ n) : Bd n (Rat.divInt t b) := by
  obtain ⟨h1, h2⟩ := num_den_le b0 (rfl : Rat.divInt t b = Rat.divInt t b)
  exact ⟨by omega, by omega⟩
theorem mul_lt {a b m n : Nat} (ha : a < 2 ^ m) (hb : b < 2 ^ n) : a * b < 2 ^ (m + n) := by
  rw [Nat.pow_add]
  exact Nat.mul_lt_mul'' ha hb
theorem abs_mul {x y : Int} {m n : Nat} (hx : x.natAbs < 2 ^ m) (hy : y.natAbs < 2 ^ n) : (x * y).natAbs < 2 ^ (m + n) := by
  rw [Int.natAbs_mul]; exact mul_lt hx hy
theorem abs_add {x y : Int} {n : Nat} (hx : x.natAbs < 2 ^ n) (hy : y.natAbs < 2 ^ n) : (x + y).natAbs < 2 ^ (n + 1) := by
  have := Int.natAbs_add_le x y
  rw [Nat.pow_succ]
  omega
theorem abs_sub {x y : Int} {n : Nat} (hx : x.natAbs < 2 ^ n) (hy : y.natAbs < 2 ^ n) : (x - y).natAbs < 2 ^ (n + 1) := by
  rw [Nat.pow_succ]
  omega
theorem Bd.dn {n : Nat} {q : Rat} (h : Bd n q) : ((q.den : Int)).natAbs < 2 ^ n := by rw [Int.natAbs_natCast]; exact h.d
theorem dd0 (p q : Rat) : (p.den : Int) * (q.den : Int) ≠ 0 := Int.mul_ne_zero (den_ne p) (den_ne q)
section
variable {m n : Nat} {p q : Rat} (hp : Bd m p) (hq : Bd n q)
include hp hq
theorem Bd.add : Bd (m + n + 1) (p + q) := by
  rw [← sum_rat]
  refine Bd.of (dd0 p q) (abs_add (abs_mul hp.n hq.dn) ?_) (Nat.lt_of_lt_of_le (abs_mul hp.dn hq.dn) (pow_le (by omega)))
  have := abs_mul hq.n hp.dn
  rw [Nat.add_comm m n]; exact this
theorem Bd.sub : Bd (m + n + 1) (p - q) := by
  rw [← less_rat]
  refine Bd.of (dd0 p q) (abs_sub (abs_mul hp.n hq.dn) ?_) (Nat.lt_of_lt_of_le (abs_mul hp.dn hq.dn) (pow_le (by omega)))
  have := abs_mul hq.n hp.dn
  rw [Nat.add_comm m n]; exact this
theorem Bd.mul : Bd (m + n) (p * q) := by
  rw [← prod_rat]
  exact Bd.of (dd0 p q) (abs_mul hp.n hq.n) (abs_mul hp.dn hq.dn)
theorem Bd.div (q0 : q ≠ 0) : Bd (m + n) (p / q) := by
  rw [← quot_rat]
  refine Bd.of (Int.mul_ne_zero (den_ne p) fun e => q0 ((num_zero q).mp e)) (abs_mul hp.n hq.dn) (abs_mul hp.dn hq.n)
end
structure Rb (n : Nat) (y u : Rat) : Prop where
  ex : ∃ (Y U : Int) (N : Nat), N ≠ 0 ∧ N < 2 ^ n ∧ Y.natAbs < 2 ^ n ∧ U.natAbs < 2 ^ n ∧ y = Rat.divInt Y N ∧ u = Rat.divInt U N
theorem Rb.mono {m n : Nat} {y u : Rat} (h : Rb m y u) (le : m ≤ n) : Rb n y u := by
  obtain ⟨Y, U, N, n0, hn, hY, hU, ey, eu⟩ := h.ex
  have := pow_le le
  exact ⟨Y, U, N, n0, by omega, by omega, by omega, ey, eu⟩
theorem Rb.y {n : Nat} {y u : Rat} (h : Rb n y u) : Bd n y := by
  obtain ⟨Y, U, N, n0, hn, hY, hU, ey, eu⟩ := h.ex
  rw [ey]
  exact Bd.of (by omega) hY (by omega)
theorem Rb.u {n : Nat} {y u : Rat} (h : Rb n y u) : Bd n u := by
  obtain ⟨Y, U, N, n0, hn, hY, hU, ey, eu⟩ := h.ex
  rw [eu]
  exact Bd.of (by omega) hU (by omega)
theorem Rb.of {n : Nat} {y u : Rat} (hy : Bd n y) (hu : Bd n u) : Rb (n + n) y u := by
  refine ⟨y.num * (u.den : Int), u.num * (y.den : Int), y.den * u.den, ?_, ?_, abs_mul hy.n hu.dn, abs_mul hu.n hy.dn, ?_, ?_⟩
  · exact Nat.mul_ne_zero y.den_nz u.den_nz
  · exact mul_lt hy.d hu.d
  · rw [show ((y.den * u.den : Nat) : Int) = (y.den : Int) * (u.den : Int) by simp, Rat.divInt_mul_right (den_ne u), divInt_rat]
  · rw [show ((y.den * u.den : Nat) : Int) = (u.den : Int) * (y.den : Int) by simp [Int.mul_comm], Rat.divInt_mul_right (den_ne y), divInt_rat]
theorem step_rat (Y U dn : Int) (N dd : Int) (n0 : N ≠ 0) (d0 : dd ≠ 0) : Rat.divInt Y N + Rat.divInt dn dd * Rat.divInt U N = Rat.divInt (Y * dd + dn * U) (N * dd) := by
  rw [Rat.divInt_mul_divInt, Rat.divInt_add_divInt _ _ n0 (Int.mul_ne_zero d0 n0)]
  rw [show Y * (dd * N) + dn * U * N = (Y * dd + dn * U) * N by rw [Int.add_mul, Int.mul_assoc Y], show N * (dd * N) = (N * dd) * N by rw [Int.mul_assoc], Rat.divInt_mul_right n0]
theorem step_low (Y dd N : Int) (n0 : N ≠ 0) (d0 : dd ≠ 0) : Rat.divInt Y N = Rat.divInt (Y * dd) (N * dd) := (Rat.divInt_mul_right d0).symm
theorem Rb.gap {n m : Nat} {y u d : Rat} (h : Rb n y u) (hd : Bd m d) : Rb (n + m + 1) (y + d * u) u := by
  obtain ⟨Y, U, N, n0, hn, hY, hU, ey, eu⟩ := h.ex
  have N0 : (N : Int) ≠ 0 := by omega
  refine ⟨Y * (d.den : Int) + d.num * U, U * (d.den : Int), N * d.den, Nat.mul_ne_zero n0 d.den_nz, Nat.lt_of_lt_of_le (mul_lt hn hd.d) (pow_le (by omega)), abs_add (abs_mul hY hd.dn) ?_, Nat.lt_of_lt_of_le (abs_mul hU hd.dn) (pow_le (by omega)), ?_, ?_⟩
  · have := abs_mul hd.n hU
    rw [Nat.add_comm n m]; exact this
  · have := step_rat Y U d.num N (d.den : Int) N0 (den_ne d)
    rw [divInt_rat, ← ey, ← eu] at this
    rw [this]; simp
  · rw [eu, step_low U (d.den : Int) N N0 (den_ne d)]; simp
theorem Rb.swap {n : Nat} {y u : Rat} (h : Rb n y u) : Rb n u y := by
  obtain ⟨Y, U, N, n0, hn, hY, hU, ey, eu⟩ := h.ex
  exact ⟨U, Y, N, n0, hn, hU, hY, eu, ey⟩
theorem Rb.glass {n m : Nat} {y u d : Rat} (h : Rb n y u) (hd : Bd m d) : Rb (n + m + 1) y (u - d * y) := by
  have := (h.swap.gap hd.neg).swap
  rw [show u - d * y = u + -d * y by rw [Rat.neg_mul, Rat.sub_eq_add_neg]]
  exact this
end Fr
namespace Op
open Fr
inductive Pc where
  | gap (d : Rat)
  | glass (p : Rat)
  | stop (lo hi : Rat)
abbrev Ray := Rat × Rat
def Pc.lets : Pc → Ray → Bool
  | .stop lo hi, r => !decide (r.1 < lo) && !decide (hi < r.1)
  | _, _ => true
def Pc.bent : Pc → Ray → Ray
  | .gap d, r => (r.1 + d * r.2, r.2)
  | .glass p, r => (r.1, r.2 - p * r.1)
  | .stop _ _, r => r
def Pc.ok : Pc → Prop
  | .stop lo hi => ¬ hi < lo
  | _ => True
def Pc.bd (m : Nat) : Pc → Prop
  | .gap d => Bd m d
  | .glass p => Bd m p
  | .stop lo hi => Bd m lo ∧ Bd m hi
theorem Pc.bd.mono {m n : Nat} (h : m ≤ n) : ∀ {p : Pc}, p.bd m → p.bd n
  | .gap _, b => Bd.mono b h
  | .glass _, b => Bd.mono b h
  | .stop _ _, b => ⟨Bd.mono b.1 h, Bd.mono b.2 h⟩
abbrev RB (n : Nat) (r : Ray) : Prop := Rb n r.1 r.2
theorem bent_rb {n m : Nat} {r : Ray} : ∀ {p : Pc}, p.bd m → RB n r → RB (n + m + 1) (p.bent r)
  | .gap _, b, h => Rb.gap h b
  | .glass _, b, h => Rb.glass h b
  | .stop _ _, _, h => Rb.mono h (by omega)
end Op
namespace Lib
open PySem L2 Fr Op
def frD (q : Rat) : PyData := .tuple [.int q.num, .int (q.den : Int)]
def rayD (r : Ray) : PyData := .tuple [frD r.1, frD r.2]
def pcD : Pc → PyData
  | .gap d => .tuple [.str "gap", frD d]
  | .glass p => .tuple [.str "glass", frD p]
  | .stop lo hi => .tuple [.str "stop", frD lo, frD hi]
def benchD (ps : List Pc) : PyData := .list (ps.map pcD)
def optD : Option Nat → PyData
  | none => .none
  | some i => .int (i : Int)
section
variable {K : PySem.W.Frag} {H : Hp} {v : V}
theorem _root_.L2.DV.fr {q : Rat} (h : DV K H v (frD q)) : ∃ a, v = .ref a ∧ SqT K H a [.int q.num, .int (q.den : Int)] := by
  obtain ⟨a, x, y, rfl, ha, hx, hy⟩ := DV.t2 h
  rw [hx.int_of, hy.int_of] at ha
  exact ⟨a, rfl, ha⟩
theorem dv_fr {q : Rat} {a : Addr} (h : SqT K H a [.int q.num, .int (q.den : Int)]) : DV K H (.ref a) (frD q) := .tup h (.cons (.int _) (.cons (.int _) .nil))
theorem dv_low {t b : Int} {p : Addr} (b0 : b ≠ 0) : DV K (upd H p (.tup [.int (Fr.lt t b), .int (Fr.lb t b)])) (.ref p) (frD (Rat.divInt t b)) := by
  rw [frO_of b0]
  exact dv_fr (SqT.of upd_same)
end
theorem _root_.Fr.Bd.sm {n : Nat} {q : Rat} (h : Bd n q) (hn : n ≤ 4000) : Sm q := ⟨Nat.lt_of_lt_of_le h.n (by unfold lim2; exact pow_le hn), Nat.lt_of_lt_of_le h.d (by unfold lim2; exact pow_le hn)⟩
structure Flat (n : Nat) (d : PyData) : Prop where
  c : d.canLay0 = true
  d : d.depth ≤ n
theorem Flat.sh {n : Nat} {d : PyData} (h : Flat n d) (hn : n ≤ 64) : SeqAt.shaped d = true := by
  unfold SeqAt.shaped
  rw [h.c, Bool.true_and]
  exact decide_eq_true (Nat.le_trans h.d hn)
theorem flat_all {n : Nat} : ∀ {ds : List PyData}, (∀ d ∈ ds, Flat n d) → PyData.canLayAll0 ds = true ∧ PyData.depthAll ds ≤ n
  | [], _ => ⟨rfl, Nat.zero_le _⟩
  | d :: ds, h => by
    obtain ⟨h1, h2⟩ := flat_all (fun x hx => h x (List.mem_cons_of_mem _ hx))
    have h3 := h d List.mem_cons_self
    refine ⟨?_, ?_⟩
    · rw [PyData.canLayAll0, h3.c, h1]; rfl
    · rw [PyData.depthAll]; exact Nat.max_le.mpr ⟨h3.d, h2⟩
theorem flat_lst {n : Nat} {ds : List PyData} (h : ∀ d ∈ ds, Flat n d) : Flat (n + 1) (.list ds) := ⟨(flat_all h).1, by rw [PyData.depth]; exact Nat.succ_le_succ (flat_all h).2⟩
theorem flat_int (i : Int) : Flat 0 (.int i) := ⟨rfl, Nat.le_refl _⟩
theorem flat_non : Flat 0 .none := ⟨rfl, Nat.le_refl _⟩
theorem flat_fr (q : Rat) : Flat 1 (frD q) := ⟨rfl, by show 1 ≤ 1; exact Nat.le_refl _⟩
theorem flat_opt : ∀ o : Option Nat, Flat 0 (optD o)
  | none => flat_non
  | some i => flat_int _
section
variable {K : PySem.W.Frag} {H : Hp} {x y : V} {d : PyData} {Q : VK}
theorem eq_same {n : Nat} (hx : DV K H x d) (hy : DV K H y d) (f : Flat n d) (k : Q (.bl true) H) (hn : n ≤ 64 := by decide) : rEqD K x y H Q :=
  ⟨d, d, hx, hy, f.sh hn, f.sh hn, by rw [SeqAt.eqv_refl d f.c]; exact k⟩
theorem ne_same {n : Nat} (hx : DV K H x d) (hy : DV K H y d) (f : Flat n d) (k : Q (.bl false) H) (hn : n ≤ 64 := by decide) : rNeD K x y H Q :=
  ⟨d, d, hx, hy, f.sh hn, f.sh hn, by rw [SeqAt.eqv_refl d f.c]; exact k⟩
theorem eq_frD {p q : Rat} (hx : DV K H x (frD p)) (hy : DV K H y (frD q)) (k : Q (.bl (decide (p = q))) H) : rEqD K x y H Q :=
  ⟨_, _, hx, hy, (flat_fr p).sh (by decide), (flat_fr q).sh (by decide), by unfold frD; rw [eqv_fr]; exact k⟩
theorem ne_frD {p q : Rat} (hx : DV K H x (frD p)) (hy : DV K H y (frD q)) (k : Q (.bl (!decide (p = q))) H) : rNeD K x y H Q :=
  ⟨_, _, hx, hy, (flat_fr p).sh (by decide), (flat_fr q).sh (by decide), by unfold frD; rw [eqv_fr]; exact k⟩
end
mutual
def noL : PyData → Bool
  | .list _ => false
  | .dict _ => false
  | .tuple ds => noLs ds
  | .none => true
  | .bool _ => true
  | .int _ => true
  | .str _ => true
def noLs : List PyData → Bool
  | [] => true
  | d :: ds => noL d && noLs ds
end
def SameT (H H' : Hp) : Prop := ∀ b xs, (H b = some (.tup xs) → H' b = some (.tup xs)) ∧ ∀ o, H b = some (.frz o (.tup xs)) → H' b = some (.frz o (.tup xs))
theorem sameT_upd {H : Hp} {l : Addr} {xs : List V} (h : H l = some (.lst xs)) (o : HO) : SameT H (upd H l o) := fun b ys => ⟨fun e => by rw [upd_ne (fun z => by rw [z, h] at e; cases e)]; exact e, fun o e => by rw [upd_ne (fun z => by rw [z, h] at e; cases e)]; exact e⟩
mutual
theorem dv_keepT {K : PySem.W.Frag} {H H' : Hp} (s : SameT H H') : ∀ {v : V} {d : PyData}, noL d = true → DV K H v d → DV K H' v d
  | _, _, _, .non => .non
  | _, _, _, .bl b => .bl b
  | _, _, _, .int i => .int i
  | _, _, _, .str x => .str x
  | _, _, n, .lst h q => nomatch n
  | _, _, n, .tup h q => .tup (by
      rcases h with (h | ⟨o, h⟩) | h
      · exact .inl (.inl ((s _ _).1 h))
      · exact .inl (.inr ⟨o, (s _ _).2 o h⟩)
      · exact .inr h) (dvs_keepT s n q)
  | _, _, n, .dct h => nomatch n
theorem dvs_keepT {K : PySem.W.Frag} {H H' : Hp} (s : SameT H H') : ∀ {vs : List V} {ds : List PyData}, noLs ds = true → DVs K H vs ds → DVs K H' vs ds
  | _, _, _, .nil => .nil
  | _, _, n, .cons h q => .cons (dv_keepT s (by rw [noLs] at n; exact (Bool.and_eq_true_iff.mp n).1) h) (dvs_keepT s (by rw [noLs] at n; exact (Bool.and_eq_true_iff.mp n).2) q)
end
theorem noLs_map {α : Type} {f : α → PyData} (h : ∀ x, noL (f x) = true) : ∀ l : List α, noLs (l.map f) = true
  | [] => rfl
  | x :: l => by rw [List.map_cons, noLs, h x, noLs_map h l]; rfl
theorem noL_ray (r : Ray) : noL (rayD r) = true := rfl
theorem noL_pc : ∀ p : Pc, noL (pcD p) = true
  | .gap _ => rfl
  | .glass _ => rfl
  | .stop _ _ => rfl
def PR (K : PySem.W.Frag) (R : List PyData → PyData → Prop) : Sp := fun vs H Q _ => ∃ ds d, DVs K H vs ds ∧ R ds d ∧ ∀ v H', Same H H' → DV K H' v d → Q v H'
def RBin (g : Rat → Rat → Rat) : List PyData → PyData → Prop := fun ds d => ∃ p q, ds = [frD p, frD q] ∧ Sm p ∧ Sm q ∧ d = frD (g p q)
def RLess : List PyData → PyData → Prop := fun ds d => ∃ p q, ds = [frD p, frD q] ∧ Sm p ∧ Sm q ∧ d = .bool (decide (p < q))
theorem DV.upd2 {K : PySem.W.Frag} {H : Hp} {r : Addr} {x y : V} {d1 d2 : PyData} (hr : H r = none) (hx : DV K H x d1) (hy : DV K H y d2) : DV K (upd H r (.tup [x, y])) (.ref r) (.tuple [d1, d2]) :=
  .tup (SqT.of upd_same) (.cons (hx.keep (same_new hr _)) (.cons (hy.keep (same_new hr _)) .nil))
theorem DV.upd3 {K : PySem.W.Frag} {H : Hp} {r : Addr} {x y z : V} {d1 d2 d3 : PyData} (hr : H r = none) (hx : DV K H x d1) (hy : DV K H y d2) (hz : DV K H z d3) : DV K (upd H r (.tup [x, y, z])) (.ref r) (.tuple [d1, d2, d3]) :=
  .tup (SqT.of upd_same) (.cons (hx.keep (same_new hr _)) (.cons (hy.keep (same_new hr _)) (.cons (hz.keep (same_new hr _)) .nil)))
theorem DV.upd4 {K : PySem.W.Frag} {H : Hp} {r : Addr} {x y z u : V} {d1 d2 d3 d4 : PyData} (hr : H r = none) (hx : DV K H x d1) (hy : DV K H y d2) (hz : DV K H z d3) (hu : DV K H u d4) : DV K (upd H r (.tup [x, y, z, u])) (.ref r) (.tuple [d1, d2, d3, d4]) :=
  .tup (SqT.of upd_same) (.cons (hx.keep (same_new hr _)) (.cons (hy.keep (same_new hr _)) (.cons (hz.keep (same_new hr _)) (.cons (hu.keep (same_new hr _)) .nil))))
def ratD : PyData → Bool
  | .tuple [.int t, .int b] => decide (1 ≤ b) && decide (Fr.gcd t b = 1)
  | _ => false
theorem ratD_fr (q : Rat) : ratD (frD q) = true := by
  show (decide (1 ≤ (q.den : Int)) && decide (Fr.gcd q.num (q.den : Int) = 1)) = true
  rw [decide_eq_true (by have := denp q; omega), decide_eq_true (frO_gcd q)]
  rfl
theorem ratD_of {d : PyData} (h : ratD d = true) : ∃ q : Rat, d = frD q := by
  unfold ratD at h
  split at h
  · rename_i t b
    obtain ⟨h1, h2⟩ := Bool.and_eq_true_iff.mp h
    obtain ⟨q, rfl, rfl⟩ := rat_of (of_decide_eq_true h1) (of_decide_eq_true h2)
    exact ⟨q, rfl⟩
  · cases h
def isIntD : PyData → Bool
  | .int _ => true
  | _ => false
def isTupD : PyData → Bool
  | .tuple _ => true
  | _ => false
theorem isInt_of {d : PyData} (h : isIntD d = true) : ∃ i, d = .int i := by
  cases d with
  | int i => exact ⟨i, rfl⟩
  | _ => cases h
theorem isTup_of {d : PyData} (h : isTupD d = true) : ∃ ds, d = .tuple ds := by
  cases d with
  | tuple ds => exact ⟨ds, rfl⟩
  | _ => cases h
theorem isInt_b (d : PyData) : ∃ b c, bsub (tyD d) "int" = some b ∧ bsub (tyD d) "bool" = some c ∧ (b && !c) = isIntD d := by
  cases d with
  | none => exact ⟨false, false, by show bsub "NoneType" "int" = _; decide +kernel, by show bsub "NoneType" "bool" = _; decide +kernel, rfl⟩
  | bool b => exact ⟨true, true, by show bsub "bool" "int" = _; decide +kernel, by show bsub "bool" "bool" = _; decide +kernel, rfl⟩
  | int i => exact ⟨true, false, by show bsub "int" "int" = _; decide +kernel, by show bsub "int" "bool" = _; decide +kernel, rfl⟩
  | str x => exact ⟨false, false, by show bsub "str" "int" = _; decide +kernel, by show bsub "str" "bool" = _; decide +kernel, rfl⟩
  | list xs => exact ⟨false, false, by show bsub "list" "int" = _; decide +kernel, by show bsub "list" "bool" = _; decide +kernel, rfl⟩
  | tuple xs => exact ⟨false, false, by show bsub "tuple" "int" = _; decide +kernel, by show bsub "tuple" "bool" = _; decide +kernel, rfl⟩
  | dict xs => exact ⟨false, false, by show bsub "dict" "int" = _; decide +kernel, by show bsub "dict" "bool" = _; decide +kernel, rfl⟩
theorem isTup_b (d : PyData) : bsub (tyD d) "tuple" = some (isTupD d) := by
  cases d with
  | none => show bsub "NoneType" "tuple" = some false; decide +kernel
  | bool b => show bsub "bool" "tuple" = some false; decide +kernel
  | int i => show bsub "int" "tuple" = some false; decide +kernel
  | str x => show bsub "str" "tuple" = some false; decide +kernel
  | list xs => show bsub "list" "tuple" = some false; decide +kernel
  | tuple xs => show bsub "tuple" "tuple" = some true; decide +kernel
  | dict xs => show bsub "dict" "tuple" = some false; decide +kernel
def isLstD : PyData → Bool
  | .list _ => true
  | _ => false
theorem isLst_b (d : PyData) : bsub (tyD d) "list" = some (isLstD d) := by
  cases d with
  | none => show bsub "NoneType" "list" = some false; decide +kernel
  | bool b => show bsub "bool" "list" = some false; decide +kernel
  | int i => show bsub "int" "list" = some false; decide +kernel
  | str x => show bsub "str" "list" = some false; decide +kernel
  | list xs => show bsub "list" "list" = some true; decide +kernel
  | tuple xs => show bsub "tuple" "list" = some false; decide +kernel
  | dict xs => show bsub "dict" "list" = some false; decide +kernel
def isStrD : PyData → Bool
  | .str _ => true
  | _ => false
theorem isStr_of {d : PyData} (h : isStrD d = true) : ∃ x, d = .str x := by
  cases d with
  | str i => exact ⟨i, rfl⟩
  | _ => cases h
theorem isStr_b (d : PyData) : bsub (tyD d) "str" = some (isStrD d) := by
  cases d with
  | none => show bsub "NoneType" "str" = some false; decide +kernel
  | bool b => show bsub "bool" "str" = some false; decide +kernel
  | int i => show bsub "int" "str" = some false; decide +kernel
  | str x => show bsub "str" "str" = some true; decide +kernel
  | list xs => show bsub "list" "str" = some false; decide +kernel
  | tuple xs => show bsub "tuple" "str" = some false; decide +kernel
  | dict xs => show bsub "dict" "str" = some false; decide +kernel
theorem ratD_no {d : PyData} (h : isTupD d = false) : ratD d = false := by
  cases d with
  | tuple ds => cases h
  | _ => rfl
theorem ratD_len {ds : List PyData} (h : ¬ ds.length = 2) : ratD (.tuple ds) = false := by
  unfold ratD
  split
  · rename_i t b e
    cases e
    exact absurd rfl h
  · rfl
theorem ratD_two {d1 d2 : PyData} (h : isIntD d1 = false ∨ isIntD d2 = false) : ratD (.tuple [d1, d2]) = false := by
  unfold ratD
  split
  · rename_i t b e
    cases e
    rcases h with h | h <;> cases h
  · rfl
def spW (K : PySem.W.Frag) : Sp := fun vs H Q _ => ∃ v d, vs = [v] ∧ DV K H v d ∧ Q (.bl (isIntD d)) H
def spRat (K : PySem.W.Frag) : Sp := fun vs H Q _ => ∃ v d, vs = [v] ∧ DV K H v d ∧ Q (.bl (ratD d)) H
def RQuo : List PyData → PyData → Prop := fun ds d => ∃ p q, ds = [frD p, frD q] ∧ Sm p ∧ Sm q ∧ q ≠ 0 ∧ d = frD (p / q)
end Lib
namespace Lib
open PySem L2 Fr Op
theorem iteT' {b : Bool} {A B : Prop} (hb : b = true) (h : A) : if b = true then A else B := by rw [if_pos hb]; exact h
theorem iteF' {b : Bool} {A B : Prop} (hb : b = false) (h : B) : if b = true then A else B := by rw [if_neg (by rw [hb]; exact Bool.false_ne_true)]; exact h
theorem sIx1 (n d : Nat) : HT.sIx n d (some 1) = min 1 n := HT.sIx_nat n d 1
theorem cut1 (xs : List V) : cutV xs (some 1) none = xs.drop 1 := by
  unfold cutV
  rw [sIx1, HT.sIx_none]
  cases xs with
  | nil => rfl
  | cons x r =>
    rw [show min 1 (x :: r).length = 1 by simp only [List.length_cons]; omega]
    exact List.take_of_length_le (by simp)
theorem decS (x y : Str) : decide (V.str x = V.str y) = decide (x = y) := by
  by_cases h : x = y
  · subst h; simp
  · have : ¬ V.str x = V.str y := fun z => h (V.str.inj z)
    rw [decide_eq_false h, decide_eq_false this]
def stopD : List PyData → Bool
  | [.tuple [.int a, .int b], .tuple [.int c, .int d]] => !decide (c * b < a * d)
  | _ => false
def pieceD : PyData → Bool
  | .tuple (.str w :: d1 :: ds) => (d1 :: ds).all ratD && (if w = "stop" then stopD (d1 :: ds) else (decide (w = "gap") || decide (w = "glass")) && ds.isEmpty)
  | _ => false
def SmP (d : PyData) : Prop := ∀ ds, d = .tuple ds → ds.length ≤ 1000 ∧ ∀ q, frD q ∈ ds → Sm q
def spPiece (K : PySem.W.Frag) : Sp := fun vs H Q _ => ∃ v d, vs = [v] ∧ DV K H v d ∧ SmP d ∧ ∀ H', Same H H' → Q (.bl (pieceD d)) H'
theorem frD_inj {p q : Rat} (h : frD p = frD q) : p = q := by
  unfold frD at h
  injection h with h
  injection h with h1 h2
  injection h1 with h1
  injection h2 with h2 _
  injection h2 with h2
  exact Rat.ext h1 (Int.ofNat.inj h2)
theorem stopD_fr (lo hi : Rat) : stopD [frD lo, frD hi] = !decide (hi < lo) := by
  show (!decide (hi.num * (lo.den : Int) < lo.num * (hi.den : Int))) = _
  rw [decide_eq_decide.mpr (Fr.lt_rat hi lo)]
theorem pieceD_pc : ∀ {p : Pc}, p.ok → pieceD (pcD p) = true
  | .gap d, _ => by
    show ([frD d].all ratD && (if ("gap" : Str) = "stop" then _ else _)) = true
    rw [List.all_cons, ratD_fr, if_neg (by decide)]
    rfl
  | .glass d, _ => by
    show ([frD d].all ratD && (if ("glass" : Str) = "stop" then _ else _)) = true
    rw [List.all_cons, ratD_fr, if_neg (by decide)]
    rfl
  | .stop lo hi, h => by
    show ([frD lo, frD hi].all ratD && (if ("stop" : Str) = "stop" then stopD [frD lo, frD hi] else _)) = true
    rw [List.all_cons, List.all_cons, ratD_fr, ratD_fr, if_pos rfl, stopD_fr, decide_eq_false h]
    rfl
theorem smP_pc {m : Nat} (hm : m ≤ 4000) : ∀ {p : Pc}, p.bd m → SmP (pcD p)
  | .gap d, b => fun ds e => by
    cases e
    refine ⟨by simp, fun q hq => ?_⟩
    simp only [List.mem_cons, List.not_mem_nil, or_false] at hq
    rcases hq with hq | hq
    · cases hq
    · rw [frD_inj hq]; exact Bd.sm b hm
  | .glass d, b => fun ds e => by
    cases e
    refine ⟨by simp, fun q hq => ?_⟩
    simp only [List.mem_cons, List.not_mem_nil, or_false] at hq
    rcases hq with hq | hq
    · cases hq
    · rw [frD_inj hq]; exact Bd.sm b hm
  | .stop lo hi, b => fun ds e => by
    cases e
    refine ⟨by simp, fun q hq => ?_⟩
    simp only [List.mem_cons, List.not_mem_nil, or_false] at hq
    rcases hq with hq | hq | hq
    · cases hq
    · rw [frD_inj hq]; exact Bd.sm b.1 hm
    · rw [frD_inj hq]; exact Bd.sm b.2 hm
inductive ObAt (K : PySem.W.Frag) (CG CL CS : Addr) (H : Hp) : V → Pc → Prop
  | gap {a dx : Addr} {x : V} {d : Rat} : H a = some (.ins CG dx [("length", x)]) → DV K H x (frD d) → ObAt K CG CL CS H (.ref a) (.gap d)
  | glass {a dx : Addr} {x : V} {d : Rat} : H a = some (.ins CL dx [("strength", x)]) → DV K H x (frD d) → ObAt K CG CL CS H (.ref a) (.glass d)
  | stop {a dx : Addr} {x y : V} {lo hi : Rat} : H a = some (.ins CS dx [("low", x), ("high", y)]) → DV K H x (frD lo) → DV K H y (frD hi) → ObAt K CG CL CS H (.ref a) (.stop lo hi)
theorem ObAt.keep {K : PySem.W.Frag} {CG CL CS : Addr} {H H' : Hp} (s : Same H H') : ∀ {v : V} {p : Pc}, ObAt K CG CL CS H v p → ObAt K CG CL CS H' v p
  | _, _, .gap h x => .gap (s _ _ h) (x.keep s)
  | _, _, .glass h x => .glass (s _ _ h) (x.keep s)
  | _, _, .stop h x y => .stop (s _ _ h) (x.keep s) (y.keep s)
def spInit1 (C : Addr) (f : Str) : Sp := fun vs H Q _ => ∃ a dx x, vs = [.ref a, x] ∧ H a = some (.ins C dx []) ∧ Q .non (upd H a (.ins C dx [(f, x)]))
def spInit2 (C : Addr) (f g : Str) : Sp := fun vs H Q _ => ∃ a dx x y, vs = [.ref a, x, y] ∧ H a = some (.ins C dx []) ∧ Q .non (upd H a (.ins C dx [(f, x), (g, y)]))
def spId : Sp := fun vs H Q _ => ∃ x y, vs = [x, y] ∧ Q y H
def spOb (K : PySem.W.Frag) (CG CL CS : Addr) (R : Pc → Ray → PyData) (C : Pc → Prop) : Sp := fun vs H Q _ => ∃ (o y : V) (p : Pc) (r : Ray) (n m : Nat), vs = [o, y] ∧ C p ∧ ObAt K CG CL CS H o p ∧ DV K H y (rayD r) ∧ RB n r ∧ p.bd m ∧ n + m ≤ 3900 ∧ ∀ v H', Same H H' → DV K H' v (R p r) → Q v H'
def isGap : Pc → Prop
  | .gap _ => True
  | _ => False
def isGlass : Pc → Prop
  | .glass _ => True
  | _ => False
def spPc (K : PySem.W.Frag) (CG CL CS : Addr) : Sp := fun vs H Q _ => ∃ v p, vs = [v] ∧ DV K H v (pcD p) ∧ ∀ a H', Same H H' → ObAt K CG CL CS H' (.ref a) p → Q (.ref a) H'
structure Good (m : Nat) (ps : List Pc) : Prop where
  len : ps.length ≤ 60
  ok : ∀ p ∈ ps, p.ok
  bd : ∀ p ∈ ps, p.bd m
def spLook (K : PySem.W.Frag) : Sp := fun vs H Q _ => ∃ v ps m, vs = [v] ∧ DV K H v (benchD ps) ∧ Good m ps ∧ m ≤ 4000 ∧ ∀ H', Same H H' → Q .non H'
theorem get_map_pc {ps : List Pc} {i : Nat} {d : PyData} (h : (ps.map pcD)[i]? = some d) : ∃ p, ps[i]? = some p ∧ d = pcD p := by
  rw [List.getElem?_map] at h
  cases e : ps[i]? with
  | none => rw [e] at h; cases h
  | some p => rw [e] at h; exact ⟨p, rfl, (Option.some.inj h).symm⟩
end Lib
namespace Lib
open PySem L2 Fr Op
theorem cutV_le (xs : List V) (lo hi : Nat) : (cutV xs (some (lo : Int)) (some (hi : Int))).length ≤ hi - lo := by
  unfold cutV
  rw [HT.sIx_nat, HT.sIx_nat, List.length_take]
  omega
theorem cutV_le0 (xs : List V) (hi : Nat) : (cutV xs none (some (hi : Int))).length ≤ hi := by
  unfold cutV
  rw [HT.sIx_nat, HT.sIx_none, List.length_take]
  omega
theorem frD_int (i : Int) : frD (i : Rat) = .tuple [.int i, .int 1] := by
  unfold frD
  rw [Rat.num_intCast, Rat.den_intCast]
  rfl
theorem frD_neg (q : Rat) : frD (-q) = .tuple [.int (0 - q.num), .int (q.den : Int)] := by
  unfold frD
  rw [Rat.neg_num, Rat.neg_den, Int.zero_sub]
theorem bd_int {i : Int} {n : Nat} (h : i.natAbs < 2 ^ n) (hn : 1 ≤ n) : Bd n (i : Rat) := ⟨by rw [Rat.num_intCast]; exact h, by rw [Rat.den_intCast]; exact Nat.lt_of_lt_of_le (by decide : 1 < 2 ^ 1) (pow_le hn)⟩
end Lib
namespace Lib
open PySem L2 Fr Op
theorem in_words (z : Str) : (if false = true then !inV (.str z) [.str "gap", .str "glass"] else inV (.str z) [.str "gap", .str "glass"]) = (decide (z = "gap") || decide (z = "glass")) := by
  rw [if_neg Bool.false_ne_true]
  unfold inV
  simp only [List.any_cons, List.any_nil, Bool.or_false]
  have h : ∀ w : Str, eqV (.str w) (.str z) = decide (z = w) := fun w => by
    show decide (w = z) = decide (z = w)
    exact decide_eq_decide.mpr ⟨Eq.symm, Eq.symm⟩
  rw [h, h]
end Lib
namespace Lib
open PySem L2 Fr Op
theorem atI0 {x : V} {xs : List V} : atI (x :: xs) 0 = some x := atI_nat (j := 0) rfl
end Lib
namespace Op
open Fr
end Op
namespace Lib
open PySem L2 Fr Op
theorem cut_take (xs : List V) (k : Nat) : cutV xs none (some (k : Int)) = xs.take k := by
  unfold cutV
  rw [HT.sIx_nat, HT.sIx_none, List.drop_zero, Nat.sub_zero, ← List.take_take]
  rw [List.take_length]
theorem cut_drop (xs : List V) (k : Nat) : cutV xs (some (k : Int)) none = xs.drop k := by
  unfold cutV
  rw [HT.sIx_nat, HT.sIx_none]
  by_cases h : k ≤ xs.length
  · rw [Nat.min_eq_left h]
    exact List.take_of_length_le (by rw [List.length_drop]; exact Nat.le_refl _)
  · rw [Nat.min_eq_right (by omega), List.drop_eq_nil_of_le (Nat.le_refl _), List.drop_eq_nil_of_le (by omega), List.take_nil]
end Lib
namespace Op
open Fr
def Pc.isStop : Pc → Bool
  | .stop _ _ => true
  | _ => false
def plainOf (ps : List Pc) : List Pc := ps.filter fun p => !p.isStop
def bend (ps : List Pc) (r : Ray) : Ray := ps.foldl (fun r p => p.bent r) r
def both (r s : Ray) : Ray := (r.1 + s.1, r.2 + s.2)
def times (k : Rat) (r : Ray) : Ray := (k * r.1, k * r.2)
theorem bent_both (p : Pc) (r s : Ray) : p.bent (both r s) = both (p.bent r) (p.bent s) := by
  cases p with
  | gap d => simp only [Pc.bent, both]; refine Prod.ext ?_ rfl; show r.1 + s.1 + d * (r.2 + s.2) = r.1 + d * r.2 + (s.1 + d * s.2); grind
  | glass d => simp only [Pc.bent, both]; refine Prod.ext rfl ?_; show r.2 + s.2 - d * (r.1 + s.1) = r.2 - d * r.1 + (s.2 - d * s.1); grind
  | stop _ _ => rfl
theorem bent_times (p : Pc) (k : Rat) (r : Ray) : p.bent (times k r) = times k (p.bent r) := by
  cases p with
  | gap d => simp only [Pc.bent, times]; refine Prod.ext ?_ rfl; show k * r.1 + d * (k * r.2) = k * (r.1 + d * r.2); grind
  | glass d => simp only [Pc.bent, times]; refine Prod.ext rfl ?_; show k * r.2 - d * (k * r.1) = k * (r.2 - d * r.1); grind
  | stop _ _ => rfl
theorem bend_both (ps : List Pc) : ∀ r s : Ray, bend ps (both r s) = both (bend ps r) (bend ps s) := by
  induction ps with
  | nil => intro r s; rfl
  | cons p ps ih => intro r s; show bend ps (p.bent (both r s)) = _; rw [bent_both, ih]; rfl
theorem bend_times (ps : List Pc) : ∀ (k : Rat) (r : Ray), bend ps (times k r) = times k (bend ps r) := by
  induction ps with
  | nil => intro k r; rfl
  | cons p ps ih => intro k r; show bend ps (p.bent (times k r)) = _; rw [bent_times, ih]; rfl
theorem bend_plain (ps : List Pc) : ∀ r : Ray, bend (plainOf ps) r = bend ps r := by
  induction ps with
  | nil => intro r; rfl
  | cons p ps ih =>
    intro r
    cases p with
    | gap d => exact ih _
    | glass d => exact ih _
    | stop lo hi => exact ih _
theorem bend_rb {n m : Nat} (ps : List Pc) : ∀ (n : Nat) (r : Ray), (∀ p ∈ ps, p.bd m) → RB n r → RB (n + ps.length * (m + 1)) (bend ps r) := by
  induction ps with
  | nil => intro n r _ h; simpa [bend] using h
  | cons p ps ih =>
    intro n r hb h
    have h1 := bent_rb (hb p List.mem_cons_self) h
    have := ih _ _ (fun q hq => hb q (List.mem_cons_of_mem _ hq)) h1
    refine Rb.mono this ?_
    rw [List.length_cons, Nat.add_mul, Nat.one_mul]
    omega
end Op
namespace Lib
open PySem L2 Fr Op
end Lib
namespace Lib
open PySem L2 Fr Op
end Lib
namespace Op
open Fr
structure Tab where
  a : Rat
  b : Rat
  c : Rat
  d : Rat
def Tab.det (t : Tab) : Rat := t.a * t.d - t.b * t.c
def Tab.by (t : Tab) (r : Ray) : Ray := (t.a * r.1 + t.b * r.2, t.c * r.1 + t.d * r.2)
def e1 : Ray := (1, 0)
def e2 : Ray := (0, 1)
def tabOf (ps : List Pc) : Tab := ⟨(bend ps e1).1, (bend ps e2).1, (bend ps e1).2, (bend ps e2).2⟩
theorem ray_split (r : Ray) : r = both (times r.1 e1) (times r.2 e2) := by
  unfold both times e1 e2
  refine Prod.ext ?_ ?_
  · show r.1 = r.1 * 1 + r.2 * 0; grind
  · show r.2 = r.1 * 0 + r.2 * 1; grind
theorem bend_tab (ps : List Pc) (r : Ray) : bend ps r = (tabOf ps).by r := by
  have e : bend ps r = both (times r.1 (bend ps e1)) (times r.2 (bend ps e2)) := by
    rw [← bend_times, ← bend_times, ← bend_both, ← ray_split]
  rw [e]
  unfold both times Tab.by tabOf
  refine Prod.ext ?_ ?_
  · show r.1 * (bend ps e1).1 + r.2 * (bend ps e2).1 = (bend ps e1).1 * r.1 + (bend ps e2).1 * r.2; grind
  · show r.1 * (bend ps e1).2 + r.2 * (bend ps e2).2 = (bend ps e1).2 * r.1 + (bend ps e2).2 * r.2; grind
theorem det_bent (p : Pc) (r s : Ray) : (p.bent r).1 * (p.bent s).2 - (p.bent s).1 * (p.bent r).2 = r.1 * s.2 - s.1 * r.2 := by
  cases p with
  | gap d => show (r.1 + d * r.2) * s.2 - (s.1 + d * s.2) * r.2 = _; grind
  | glass d => show r.1 * (s.2 - d * s.1) - s.1 * (r.2 - d * r.1) = _; grind
  | stop _ _ => rfl
theorem det_bend (ps : List Pc) : ∀ r s : Ray, (bend ps r).1 * (bend ps s).2 - (bend ps s).1 * (bend ps r).2 = r.1 * s.2 - s.1 * r.2 := by
  induction ps with
  | nil => intro r s; rfl
  | cons p ps ih => intro r s; show (bend ps (p.bent r)).1 * (bend ps (p.bent s)).2 - (bend ps (p.bent s)).1 * (bend ps (p.bent r)).2 = _; rw [ih, det_bent]
theorem det_tab (ps : List Pc) : (tabOf ps).det = 1 := by
  have := det_bend ps e1 e2
  unfold Tab.det tabOf
  show (bend ps e1).1 * (bend ps e2).2 - (bend ps e2).1 * (bend ps e1).2 = 1
  rw [this]
  unfold e1 e2
  grind
theorem bend_append (ps qs : List Pc) (r : Ray) : bend (ps ++ qs) r = bend qs (bend ps r) := List.foldl_append ..
def Tab.then (t u : Tab) : Tab := ⟨u.a * t.a + u.b * t.c, u.a * t.b + u.b * t.d, u.c * t.a + u.d * t.c, u.c * t.b + u.d * t.d⟩
theorem tab_append (ps qs : List Pc) : tabOf (ps ++ qs) = (tabOf ps).then (tabOf qs) := by
  unfold Tab.then
  have h1 : bend (ps ++ qs) e1 = (tabOf qs).by (bend ps e1) := by rw [bend_append, bend_tab qs]
  have h2 : bend (ps ++ qs) e2 = (tabOf qs).by (bend ps e2) := by rw [bend_append, bend_tab qs]
  show Tab.mk _ _ _ _ = _
  rw [h1, h2]
  rfl
structure Tb (n : Nat) (t : Tab) : Prop where
  a : Bd n t.a
  b : Bd n t.b
  c : Bd n t.c
  d : Bd n t.d
theorem tab_bd {m : Nat} {ps : List Pc} (hb : ∀ p ∈ ps, p.bd m) : Tb (2 + ps.length * (m + 1)) (tabOf ps) := by
  have r1 : RB 2 e1 := ⟨1, 0, 1, by decide, by decide, by decide, by decide, by decide +kernel, by decide +kernel⟩
  have r2 : RB 2 e2 := ⟨0, 1, 1, by decide, by decide, by decide, by decide, by decide +kernel, by decide +kernel⟩
  have h1 := bend_rb (n := 0) ps 2 e1 hb r1
  have h2 := bend_rb (n := 0) ps 2 e2 hb r2
  exact ⟨h1.y, h2.y, h1.u, h2.u⟩
end Op
namespace Lib
open PySem L2 Fr Op
def tabD (t : Tab) : PyData := .tuple [frD t.a, frD t.b, frD t.c, frD t.d]
def ofrD : Option Rat → PyData
  | none => .none
  | some q => frD q
def RIsTab : List PyData → PyData → Prop := fun ds d => ∃ t n, ds = [tabD t] ∧ Tb n t ∧ n ≤ 1900 ∧ d = .bool (decide (t.det = 1))
def RLookT : List PyData → PyData → Prop := fun ds d => ∃ t n, ds = [tabD t] ∧ Tb n t ∧ n ≤ 1900 ∧ t.det = 1 ∧ d = .none
def RRays : List PyData → PyData → Prop := fun ds d => ∃ r s : Ray, ds = [rayD r, rayD s] ∧ d = tabD ⟨r.1, s.1, r.2, s.2⟩
def RTabOf : List PyData → PyData → Prop := fun ds d => ∃ ps m, ds = [benchD ps] ∧ Good m ps ∧ 2 + ps.length * (m + 1) + m ≤ 3900 ∧ d = tabD (tabOf ps)
def RMade : List PyData → PyData → Prop := fun ds d => ∃ t r n, ds = [tabD t, rayD r] ∧ Tb n t ∧ Bd n r.1 ∧ Bd n r.2 ∧ n ≤ 1900 ∧ d = rayD (t.by r)
def spread (t : Tab) (s : Rat) : Ray := (t.a * s + t.b, t.c * s + t.d)
def RSpread : List PyData → PyData → Prop := fun ds d => ∃ t s n, ds = [tabD t, frD s] ∧ Tb n t ∧ Bd n s ∧ n ≤ 1900 ∧ d = rayD (spread t s)
def img (t : Tab) (s : Rat) : Option Rat := if (spread t s).2 = 0 then none else some (0 - (spread t s).1 / (spread t s).2)
def RImg : List PyData → PyData → Prop := fun ds d => ∃ t s n, ds = [tabD t, frD s] ∧ Tb n t ∧ t.det = 1 ∧ Bd n s ∧ n ≤ 450 ∧ d = ofrD (img t s)
theorem bd_zero (n : Nat) (hn : 1 ≤ n) : Bd n (0 : Rat) := ⟨by show (0 : Int).natAbs < 2 ^ n; exact Nat.pow_pos (by decide), Nat.lt_of_lt_of_le (by decide : (0 : Rat).den < 2 ^ 1) (pow_le hn)⟩
theorem spread_bd {t : Tab} {s : Rat} {n : Nat} (h : Tb n t) (hs : Bd n s) : Bd (3 * n + 1) (spread t s).1 ∧ Bd (3 * n + 1) (spread t s).2 := ⟨((h.a.mul hs).add h.b).mono (by omega), ((h.c.mul hs).add h.d).mono (by omega)⟩
end Lib
namespace Lib
open PySem L2 Fr Op
structure DrA (H : Hp) (d c : Addr) (L : List V) : Prop where
  d : ∃ a n : Int, 0 ≤ n ∧ H d = some (.lst [.int a, .ref c, .int n])
  c : H c = some (.lst L)
  i : ∀ x ∈ L, ∃ z : Int, x = .int z
  l : 0 < L.length
  m : L.length ≤ 100
def SD (d : Addr) (H H' : Hp) : Prop := ∀ b o, b ≠ d → H b = some o → H' b = some o
theorem SD.refl (d : Addr) (H : Hp) : SD d H H := fun _ _ _ h => h
theorem SD.trans {d : Addr} {H H1 H2 : Hp} (a : SD d H H1) (b : SD d H1 H2) : SD d H H2 := fun c o n h => b c o n (a c o n h)
theorem _root_.L2.Same.sd {H H' : Hp} (s : Same H H') (d : Addr) : SD d H H' := fun b o _ h => s b o h
theorem SD.t {d : Addr} {H H' : Hp} {xs : List V} (s : SD d H H') (h : H d = some (.lst xs)) : SameT H H' := fun b ys => ⟨fun e => s b _ (fun z => by rw [z, h] at e; cases e) e, fun o e => s b _ (fun z => by rw [z, h] at e; cases e) e⟩
theorem DrA.keep {H H' : Hp} {d c : Addr} {L : List V} (h : DrA H d c L) (s : Same H H') : DrA H' d c L := by
  obtain ⟨a, n, h0, h1⟩ := h.d
  exact ⟨⟨a, n, h0, s _ _ h1⟩, s _ _ h.c, h.i, h.l, h.m⟩
theorem DrA.ne {H : Hp} {d c : Addr} {L : List V} (h : DrA H d c L) : c ≠ d := fun e => by
  obtain ⟨a, n, h0, h1⟩ := h.d
  have h2 := h.c
  rw [e, h1] at h2
  cases h2
  obtain ⟨z, e⟩ := h.i (.ref c) (by simp)
  cases e
theorem DrA.t {H H' : Hp} {d c : Addr} {L : List V} (h : DrA H d c L) (s : SD d H H') : SameT H H' := by
  obtain ⟨a, n, h0, h1⟩ := h.d
  exact s.t h1
theorem DrA.dv {K : PySem.W.Frag} {H H' : Hp} {d c : Addr} {L : List V} {v : V} {x : PyData} (h : DrA H d c L) (s : SD d H H') (hx : DV K H v x) (n : noL x = true := by rfl) : DV K H' v x := dv_keepT (h.t s) n hx
theorem sd_upd {H : Hp} {d : Addr} {o : HO} : SD d H (upd H d o) := fun b u n h => by rw [upd_ne n]; exact h
def spDraw : Sp := fun vs H Q _ => ∃ (d c : Addr) (L : List V) (m : Int), vs = [.ref d, .int m] ∧ DrA H d c L ∧ 0 < m ∧ ∀ (x : Int) H', 0 ≤ x → x < m → DrA H' d c L → SD d H H' → Q (.int x) H'
def spDrawn (K : PySem.W.Frag) : Sp := fun vs H Q _ => ∃ (a : Addr) (ns : List Int) (st : Int), vs = [.ref a, .int st] ∧ SqL K H a (ns.map V.int) ∧ ∀ d c L H', Same H H' → H d = none → DrA H' d c L → Q (.ref d) H'
def spLowP : Sp := fun vs H Q _ => ∃ t b : Int, vs = [.int t, .int b] ∧ 0 < b ∧ b.natAbs < lim ∧ ∀ p, H p = none → Q (.ref p) (upd H p (.tup [.int (Fr.lt t b), .int (Fr.lb t b)]))
end Lib
namespace Lib
open PySem L2 Fr Op
theorem DrA.keepD {H H' : Hp} {d c l : Addr} {L : List V} (h : DrA H d c L) (s : SD l H H') (hd : d ≠ l) (hc : c ≠ l) : DrA H' d c L := by
  obtain ⟨a, n, h0, h1⟩ := h.d
  exact ⟨⟨a, n, h0, s _ _ hd h1⟩, s _ _ hc h.c, h.i, h.l, h.m⟩
end Lib
namespace Lib
open PySem L2 Fr Op
def spRatG (K : PySem.W.Frag) : Sp := fun vs H Q _ => ∃ v q, vs = [v] ∧ DV K H v (frD q) ∧ Q (.bl true) H
def spPieceG (K : PySem.W.Frag) : Sp := fun vs H Q _ => ∃ (v : V) (p : Pc) (m : Nat), vs = [v] ∧ DV K H v (pcD p) ∧ p.ok ∧ p.bd m ∧ m ≤ 4000 ∧ ∀ H', Same H H' → Q (.bl true) H'
inductive PSh (m : Nat) : Str → List Rat → Prop where
  | stop {lo hi : Rat} : ¬ hi < lo → Bd m lo → Bd m hi → PSh m "stop" [lo, hi]
  | one {w : Str} {d : Rat} : decide (w = "stop") = false → (decide (w = "gap") || decide (w = "glass")) = true → PSh m w [d]
theorem pc_shape {m : Nat} : ∀ {p : Pc}, p.ok → p.bd m → ∃ w es, pcD p = .tuple (.str w :: es.map frD) ∧ PSh m w es
  | .gap d, _, _ => ⟨"gap", [d], rfl, .one (by decide) (by decide)⟩
  | .glass d, _, _ => ⟨"glass", [d], rfl, .one (by decide) (by decide)⟩
  | .stop lo hi, h, b => ⟨"stop", [lo, hi], rfl, .stop h b.1 b.2⟩
theorem PSh.len {m : Nat} {w : Str} {es : List Rat} : PSh m w es → 0 < es.length ∧ es.length ≤ 2
  | .stop .. => ⟨by simp, by simp⟩
  | .one .. => ⟨by simp, by simp⟩
theorem all_rep (n : Nat) : (List.replicate n true).all id = true := by simp
theorem rep_map (n : Nat) : (List.replicate n true).map V.bl = List.replicate n (V.bl true) := by simp
theorem get_fr {es : List Rat} {i : Nat} {d : PyData} (h : (es.map frD)[i]? = some d) : ∃ q, d = frD q := by
  rw [List.getElem?_map] at h
  cases e : es[i]? with
  | none => rw [e] at h; cases h
  | some q => rw [e] at h; cases h; exact ⟨q, rfl⟩
theorem eq_frG {K : PySem.W.Frag} {H : Hp} {x y : V} {p q : Rat} {σ : List (Option V)} {Q : VK} (hx : DV K H x (frD p)) (hy : DV K H y (frD q)) (k : Q (.bl (decide (p = q))) H) : tC y σ H (fun y H2 => rEqD K x y H2 Q) := eq_frD hx hy k
end Lib
namespace Lib
open PySem L2 Fr Op
theorem tab_ext {t u : Tab} (a : t.a = u.a) (b : t.b = u.b) (c : t.c = u.c) (d : t.d = u.d) : t = u := by
  cases t; cases u; cases a; cases b; cases c; cases d; rfl
end Lib
namespace Lib
open PySem L2 Fr Op
theorem len_step {α : Type} {tr : List α} {i : Nat} {x : α} (h : tr.length ≤ i) : (tr ++ [x]).length ≤ i + 1 := by rw [List.length_append]; exact Nat.succ_le_succ h
theorem bi_le {n i m k : Nat} (h : n + k * (m + 1) + m ≤ 3900) (hi : i < k) : n + i * (m + 1) + m ≤ 3900 := by
  have : i * (m + 1) ≤ k * (m + 1) := Nat.mul_le_mul_right _ (Nat.le_of_lt hi)
  omega
theorem le_a {n m : Nat} (h : n + m ≤ 3900) : n ≤ 4000 := by omega
theorem le_b {n m : Nat} (h : n + m ≤ 3900) : m ≤ 4000 := by omega
theorem le_ba {n m : Nat} (h : n + m ≤ 3900) : m + n ≤ 4000 := by omega
theorem by1 {α : Type} {p : List α → Prop} (h : ∀ a, p [a]) : ∀ us : List α, us.length = 1 → p us
  | [_], _ => h _
theorem by2 {α : Type} {p : List α → Prop} (h : ∀ a b, p [a, b]) : ∀ us : List α, us.length = 2 → p us
  | [_, _], _ => h _ _
theorem by3 {α : Type} {p : List α → Prop} (h : ∀ a b c, p [a, b, c]) : ∀ us : List α, us.length = 3 → p us
  | [_, _, _], _ => h _ _ _
theorem by4 {α : Type} {p : List α → Prop} (h : ∀ a b c d, p [a, b, c, d]) : ∀ us : List α, us.length = 4 → p us
  | [_, _, _, _], _ => h _ _ _ _
theorem by5 {α : Type} {p : List α → Prop} (h : ∀ a b c d e, p [a, b, c, d, e]) : ∀ us : List α, us.length = 5 → p us
  | [_, _, _, _, _], _ => h _ _ _ _ _
end Lib
namespace Lib
open PySem L2 Fr Op
theorem bend_take {ps : List Pc} {i : Nat} {pc : Pc} (h : ps[i]? = some pc) (r : Ray) : bend (ps.take (i + 1)) r = pc.bent (bend (ps.take i) r) := by
  rw [List.take_add_one, h, bend_append]
  rfl
end Lib
namespace Lib
open PySem L2 Fr Op
end Lib
namespace Lib
open PySem L2 Fr Op
end Lib
namespace Lib
open PySem L2 Fr Op
end Lib
namespace Lib
open PySem L2 Fr Op
section
variable {K : PySem.W.Frag} {H H1 H2 H' : Hp} {v x y z u : V} {p : Addr} {d d1 d2 d3 d4 : PyData} {xs : List V} {o : HO}
theorem zs1 (h2 : Same H1 H2) (h1 : Same H H1) : Same H H2 := h1.trans h2
theorem zs2 (hp : H1 p = none) (h1 : Same H H1) : Same H (upd H1 p o) := h1.trans (same_new hp o)
theorem zd1 (h : DV K H v d) (s : Same H H') : DV K H' v d := h.keep s
theorem zt1 (h : SqT K H p xs) (s : Same H H') : SqT K H' p xs := h.keep s
end
end Lib
namespace Lib
open PySem L2 Fr Op
end Lib
namespace Lib
open PySem L2 Fr Op
theorem tab_gap (e : Rat) : tabOf [.gap e] = ⟨1, e, 0, 1⟩ := by
  refine tab_ext ?_ ?_ rfl rfl
  · show 1 + e * 0 = (1 : Rat); grind
  · show 0 + e * 1 = e; grind
theorem tab_glass (e : Rat) : tabOf [.glass e] = ⟨1, 0, -e, 1⟩ := by
  refine tab_ext rfl rfl ?_ ?_
  · show 0 - e * 1 = -e; grind
  · show 1 - e * 0 = (1 : Rat); grind
theorem Tb.mono {n m : Nat} {t : Tab} (h : Tb n t) (le : n ≤ m) : Tb m t := ⟨h.a.mono le, h.b.mono le, h.c.mono le, h.d.mono le⟩
theorem fr00 {K : PySem.W.Frag} {H : Hp} {p : Addr} {i : Int} : DV K (upd H p (.tup [.int i, .int 1])) (.ref p) (frD ((i : Int) : Rat)) := by
  rw [frD_int]
  exact .tup (SqT.of upd_same) (.cons (.int _) (.cons (.int 1) .nil))
end Lib
namespace Lib
open PySem L2 Fr Op
end Lib
namespace Lib
open PySem L2 Fr Op
structure Lim where
  k : Nat
  a : Rat
  b : Rat
  lo : Rat
  hi : Rat
def limD (l : Lim) : PyData := .tuple [.int (l.k : Int), frD l.a, frD l.b, frD l.lo, frD l.hi]
def lim1 (i : Nat) (p : Pc) (h s : Ray) : List Lim := match p with
  | .stop lo hi => [⟨i, h.1, s.1, lo, hi⟩]
  | _ => []
def limsF : Nat → List Pc → Ray → Ray → List Lim
  | _, [], _, _ => []
  | i, p :: ps, h, s => lim1 i p h s ++ limsF (i + 1) ps (p.bent h) (p.bent s)
def lims (ps : List Pc) : List Lim := limsF 0 ps e1 e2
theorem limsF_snoc (p : Pc) : ∀ (ps : List Pc) (i : Nat) (h s : Ray), limsF i (ps ++ [p]) h s = limsF i ps h s ++ lim1 (i + ps.length) p (bend ps h) (bend ps s)
  | [], i, h, s => by show lim1 i p h s ++ [] = [] ++ lim1 (i + 0) p h s; rw [List.append_nil]; rfl
  | q :: ps, i, h, s => by
    show lim1 i q h s ++ limsF (i + 1) (ps ++ [p]) (q.bent h) (q.bent s) = lim1 i q h s ++ limsF (i + 1) ps (q.bent h) (q.bent s) ++ _
    rw [limsF_snoc p ps, List.append_assoc, List.length_cons, show i + 1 + ps.length = i + (ps.length + 1) by omega]
    rfl
theorem lims_take {ps : List Pc} {i : Nat} {p : Pc} (h : ps[i]? = some p) : lims (ps.take (i + 1)) = lims (ps.take i) ++ lim1 i p (bend (ps.take i) e1) (bend (ps.take i) e2) := by
  have hi := (List.getElem?_eq_some_iff.mp h).1
  unfold lims
  rw [List.take_add_one, h]
  show limsF 0 (ps.take i ++ [p]) e1 e2 = _
  rw [limsF_snoc, List.length_take, Nat.min_eq_left (Nat.le_of_lt hi), Nat.zero_add]
theorem lims_len (ps : List Pc) : ∀ (i : Nat) (h s : Ray), (limsF i ps h s).length ≤ ps.length := by
  induction ps with
  | nil => intro i h s; exact Nat.le_refl _
  | cons p ps ih =>
    intro i h s
    show (lim1 i p h s ++ limsF (i + 1) ps _ _).length ≤ ps.length + 1
    rw [List.length_append]
    have := ih (i + 1) (p.bent h) (p.bent s)
    cases p with
    | gap d => show 0 + _ ≤ _; omega
    | glass d => show 0 + _ ≤ _; omega
    | stop lo hi => show 1 + _ ≤ _; omega
theorem noL_lim (l : Lim) : noL (limD l) = true := rfl
structure LimOk (n : Nat) (l : Lim) : Prop where
  a : Bd n l.a
  b : Bd n l.b
  lo : Bd n l.lo
  hi : Bd n l.hi
  z : l.a = 0 → l.b ≠ 0
theorem lims_ok {m : Nat} : ∀ (ps : List Pc) (i n : Nat) (h s : Ray), (∀ p ∈ ps, p.bd m) → RB n h → RB n s → h.1 * s.2 - s.1 * h.2 = 1 → ∀ l ∈ limsF i ps h s, LimOk (n + ps.length * (m + 1) + m) l
  | [], i, n, h, s, _, _, _, _ => fun l hl => nomatch hl
  | p :: ps, i, n, h, s, hb, rh, rs, dt => fun l hl => by
    have hp := hb p List.mem_cons_self
    have e : (p :: ps).length * (m + 1) = ps.length * (m + 1) + (m + 1) := by rw [List.length_cons, Nat.add_mul, Nat.one_mul]
    rcases List.mem_append.mp hl with h1 | h1
    · cases p with
      | gap d => cases h1
      | glass d => cases h1
      | stop lo hi =>
        have hp : Bd m lo ∧ Bd m hi := hp
        cases List.mem_singleton.mp h1
        refine ⟨rh.y.mono (by omega), rs.y.mono (by omega), hp.1.mono (by omega), hp.2.mono (by omega), fun z1 z2 => ?_⟩
        have z1 : h.1 = 0 := z1
        have z2 : s.1 = 0 := z2
        rw [z1, z2] at dt
        grind
    · have := lims_ok ps (i + 1) (n + m + 1) (p.bent h) (p.bent s) (fun q hq => hb q (List.mem_cons_of_mem _ hq)) (bent_rb hp rh) (bent_rb hp rs) (by rw [det_bent]; exact dt) l h1
      exact ⟨this.a.mono (by omega), this.b.mono (by omega), this.lo.mono (by omega), this.hi.mono (by omega), this.z⟩
theorem rb_e1 : RB 2 e1 := ⟨1, 0, 1, by decide, by decide, by decide, by decide, by decide +kernel, by decide +kernel⟩
theorem rb_e2 : RB 2 e2 := ⟨0, 1, 1, by decide, by decide, by decide, by decide, by decide +kernel, by decide +kernel⟩
theorem lims_all {m : Nat} {ps : List Pc} (hb : ∀ p ∈ ps, p.bd m) : ∀ l ∈ lims ps, LimOk (2 + ps.length * (m + 1) + m) l := lims_ok ps 0 2 e1 e2 hb rb_e1 rb_e2 (by show (1 : Rat) * 1 - 0 * 0 = 1; grind)
def spLims (K : PySem.W.Frag) : Sp := fun vs H Q _ => ∃ (v : V) (ps : List Pc) (m : Nat), vs = [v] ∧ DV K H v (benchD ps) ∧ Good m ps ∧ 2 + ps.length * (m + 1) + m ≤ 3900 ∧ ∀ l rs H', Same H H' → H l = none → H' l = some (.lst rs) → DVs K H' rs ((lims ps).map limD) → Q (.ref l) H'
theorem DV.upd5 {K : PySem.W.Frag} {H : Hp} {r : Addr} {x y z u t : V} {d1 d2 d3 d4 d5 : PyData} (hr : H r = none) (hx : DV K H x d1) (hy : DV K H y d2) (hz : DV K H z d3) (hu : DV K H u d4) (ht : DV K H t d5) : DV K (upd H r (.tup [x, y, z, u, t])) (.ref r) (.tuple [d1, d2, d3, d4, d5]) :=
  .tup (SqT.of upd_same) (.cons (hx.keep (same_new hr _)) (.cons (hy.keep (same_new hr _)) (.cons (hz.keep (same_new hr _)) (.cons (hu.keep (same_new hr _)) (.cons (ht.keep (same_new hr _)) .nil)))))
theorem DV.t5 {K : PySem.W.Frag} {H : Hp} {v : V} {l : Lim} (h : DV K H v (limD l)) : ∃ a x y z u, v = .ref a ∧ SqT K H a [.int (l.k : Int), x, y, z, u] ∧ DV K H x (frD l.a) ∧ DV K H y (frD l.b) ∧ DV K H z (frD l.lo) ∧ DV K H u (frD l.hi) := by
  obtain ⟨a, xs, rfl, ha, hxs⟩ := DV.tup_of h
  obtain ⟨x0, r0, rfl, h0, hr⟩ := hxs.cons_of
  obtain ⟨x1, x2, x3, x4, rfl, h1, h2, h3, h4⟩ := hr.four
  obtain rfl := h0.int_of
  exact ⟨a, x1, x2, x3, x4, rfl, ha, h1, h2, h3, h4⟩
theorem get_map_lim {ls : List Lim} {i : Nat} {d : PyData} (h : (ls.map limD)[i]? = some d) : ∃ l, ls[i]? = some l ∧ d = limD l := by
  rw [List.getElem?_map] at h
  cases e : ls[i]? with
  | none => rw [e] at h; cases h
  | some p => rw [e] at h; exact ⟨p, rfl, (Option.some.inj h).symm⟩
end Lib
namespace Lib
open PySem L2 Fr Op
end Lib
namespace Lib
open PySem L2 Fr Op
end Lib
namespace Lib
open PySem L2 Fr Op
end Lib
namespace Op
open Fr
def Tab.id : Tab := ⟨1, 0, 0, 1⟩
theorem mul_den (x : Rat) : x * ((x.den : Int) : Rat) = (x.num : Rat) := by
  have h0 : ((x.den : Int) : Rat) ≠ 0 := fun h => by
    have : ((x.den : Int) : Rat) = ((0 : Int) : Rat) := h
    have := Rat.intCast_inj.mp this
    have := x.den_nz
    omega
  have h1 : x = (x.num : Rat) / ((x.den : Int) : Rat) := by
    rw [← Rat.divInt_eq_div]
    exact (Rat.num_divInt_den x).symm
  have h2 : (x.num : Rat) / ((x.den : Int) : Rat) * ((x.den : Int) : Rat) = (x.num : Rat) := Rat.div_mul_cancel h0
  rw [← h1] at h2
  exact h2
end Op
namespace Lib
open PySem L2 Fr Op
structure Tq (n : Nat) (t : Tab) : Prop where
  ex : ∃ (N A B C D : Int), N ≠ 0 ∧ N.natAbs < 2 ^ n ∧ A.natAbs < 2 ^ n ∧ B.natAbs < 2 ^ n ∧ C.natAbs < 2 ^ n ∧ D.natAbs < 2 ^ n ∧ t.a * (N : Rat) = (A : Rat) ∧ t.b * (N : Rat) = (B : Rat) ∧ t.c * (N : Rat) = (C : Rat) ∧ t.d * (N : Rat) = (D : Rat)
theorem Tq.mono {n m : Nat} {t : Tab} (h : Tq n t) (le : n ≤ m) : Tq m t := by
  obtain ⟨N, A, B, C, D, h0, h1, h2, h3, h4, h5, e⟩ := h.ex
  have p : 2 ^ n ≤ 2 ^ m := pow_le le
  exact ⟨N, A, B, C, D, h0, by omega, by omega, by omega, by omega, by omega, e⟩
theorem int_nz {N : Int} (h : N ≠ 0) : (N : Rat) ≠ 0 := fun z => h (Rat.intCast_inj.mp (show (N : Rat) = ((0 : Int) : Rat) from z))
theorem nat_mul {x y n m : Nat} (hx : x < 2 ^ n) (hy : y < 2 ^ m) : x * y < 2 ^ (n + m) := by
  rw [Nat.pow_add]
  exact Nat.mul_lt_mul_of_lt_of_lt hx hy
theorem abs_two {a b c d : Int} {n m : Nat} (ha : a.natAbs < 2 ^ n) (hb : b.natAbs < 2 ^ m) (hc : c.natAbs < 2 ^ n) (hd : d.natAbs < 2 ^ m) : (a * b + c * d).natAbs < 2 ^ (n + m + 1) := by
  have h1 : (a * b).natAbs < 2 ^ (n + m) := by rw [Int.natAbs_mul]; exact nat_mul ha hb
  have h2 : (c * d).natAbs < 2 ^ (n + m) := by rw [Int.natAbs_mul]; exact nat_mul hc hd
  have h3 := Int.natAbs_add_le (a * b) (c * d)
  have h4 : 2 ^ (n + m + 1) = 2 ^ (n + m) * 2 := by rw [Nat.pow_succ]
  omega
theorem Tq.then {n m : Nat} {t u : Tab} (h : Tq n t) (k : Tq m u) : Tq (m + n + 1) (t.then u) := by
  obtain ⟨N, A, B, C, D, h0, h1, h2, h3, h4, h5, e1, e2, e3, e4⟩ := h.ex
  obtain ⟨N', A', B', C', D', k0, k1, k2, k3, k4, k5, f1, f2, f3, f4⟩ := k.ex
  refine ⟨N' * N, A' * A + B' * C, A' * B + B' * D, C' * A + D' * C, C' * B + D' * D, Int.mul_ne_zero k0 h0, ?_, abs_two k2 h2 k3 h4, abs_two k2 h3 k3 h5, abs_two k4 h2 k5 h4, abs_two k4 h3 k5 h5, ?_, ?_, ?_, ?_⟩
  · rw [Int.natAbs_mul]
    exact Nat.lt_of_lt_of_le (nat_mul k1 h1) (pow_le (by omega))
  · show (u.a * t.a + u.b * t.c) * ((N' * N : Int) : Rat) = ((A' * A + B' * C : Int) : Rat)
    rw [Rat.intCast_add, Rat.intCast_mul, Rat.intCast_mul, Rat.intCast_mul, ← e1, ← e3, ← f1, ← f2]; grind
  · show (u.a * t.b + u.b * t.d) * ((N' * N : Int) : Rat) = ((A' * B + B' * D : Int) : Rat)
    rw [Rat.intCast_add, Rat.intCast_mul, Rat.intCast_mul, Rat.intCast_mul, ← e2, ← e4, ← f1, ← f2]; grind
  · show (u.c * t.a + u.d * t.c) * ((N' * N : Int) : Rat) = ((C' * A + D' * C : Int) : Rat)
    rw [Rat.intCast_add, Rat.intCast_mul, Rat.intCast_mul, Rat.intCast_mul, ← e1, ← e3, ← f3, ← f4]; grind
  · show (u.c * t.b + u.d * t.d) * ((N' * N : Int) : Rat) = ((C' * B + D' * D : Int) : Rat)
    rw [Rat.intCast_add, Rat.intCast_mul, Rat.intCast_mul, Rat.intCast_mul, ← e2, ← e4, ← f3, ← f4]; grind
theorem tq_id : Tq 1 Tab.id := ⟨1, 1, 0, 0, 1, by decide, by decide, by decide, by decide, by decide, by decide, Rat.one_mul _, Rat.zero_mul _, Rat.zero_mul _, Rat.one_mul _⟩
theorem tq_piece {m : Nat} : ∀ {p : Pc}, p.bd m → Tq (m + 1) (tabOf [p])
  | .gap e, (b : Bd m e) => by
    rw [tab_gap]
    have hn : e.num.natAbs < 2 ^ (m + 1) := Nat.lt_of_lt_of_le b.n (pow_le (by omega))
    have hd : (e.den : Int).natAbs < 2 ^ (m + 1) := by rw [Int.natAbs_natCast]; exact Nat.lt_of_lt_of_le b.d (pow_le (by omega))
    refine ⟨e.den, e.den, e.num, 0, e.den, by have := e.den_nz; omega, hd, hd, hn, Nat.pow_pos (by decide), hd, Rat.one_mul _, mul_den e, Rat.zero_mul _, Rat.one_mul _⟩
  | .glass e, (b : Bd m e) => by
    rw [tab_glass]
    have hn : (-e.num).natAbs < 2 ^ (m + 1) := by rw [Int.natAbs_neg]; exact Nat.lt_of_lt_of_le b.n (pow_le (by omega))
    have hd : (e.den : Int).natAbs < 2 ^ (m + 1) := by rw [Int.natAbs_natCast]; exact Nat.lt_of_lt_of_le b.d (pow_le (by omega))
    refine ⟨e.den, e.den, 0, -e.num, e.den, by have := e.den_nz; omega, hd, hd, Nat.pow_pos (by decide), hn, hd, Rat.one_mul _, Rat.zero_mul _, ?_, Rat.one_mul _⟩
    show -e * ((e.den : Int) : Rat) = ((-e.num : Int) : Rat)
    rw [Rat.intCast_neg, ← mul_den e]; grind
  | .stop lo hi, _ => by
    have e : tabOf [.stop lo hi] = Tab.id := rfl
    rw [e]
    exact tq_id.mono (by omega)
theorem tq_tab {m : Nat} : ∀ {ps : List Pc}, (∀ p ∈ ps, p.bd m) → Tq (1 + ps.length * (m + 2)) (tabOf ps)
  | [], _ => by
    have e : tabOf [] = Tab.id := rfl
    rw [e]
    exact tq_id.mono (by simp)
  | p :: ps, h => by
    have e : tabOf (p :: ps) = (tabOf [p]).then (tabOf ps) := tab_append [p] ps
    rw [e]
    exact (Tq.then (tq_piece (h p List.mem_cons_self)) (tq_tab fun q hq => h q (List.mem_cons_of_mem _ hq))).mono (by rw [List.length_cons, Nat.add_mul]; omega)
instance : DecidableEq Tab := fun t u => decidable_of_iff (t.a = u.a ∧ t.b = u.b ∧ t.c = u.c ∧ t.d = u.d) ⟨fun ⟨a, b, c, d⟩ => by (cases t; cases u; cases a; cases b; cases c; cases d; rfl), fun h => by rw [h]; exact ⟨rfl, rfl, rfl, rfl⟩⟩
end Lib
namespace Lib
open PySem L2 Fr Op
end Lib
namespace L2
open PySem PySem.Spec PyProof.Rows
end L2
namespace L2
open PySem PySem.Spec PyProof.Rows
end L2
namespace Lib
open PySem L2 Fr Op
end Lib
namespace Lib
open PySem L2 Fr Op
def pb (far : Bool) : Nat := cond far 50 12
theorem pb_ge (far : Bool) : 12 ≤ pb far := by cases far <;> decide
theorem pb_le (far : Bool) : pb far ≤ 4000 := by cases far <;> decide
def spDPartN (K : PySem.W.Frag) : Sp := fun vs H Q _ => ∃ (d c : Addr) (L : List V) (far : Bool), vs = [.ref d, .bl far] ∧ DrA H d c L ∧ ∀ v H' q, DrA H' d c L → SD d H H' → DV K H' v (frD q) → Bd (pb far) q → Q v H'
def spDPieceN (K : PySem.W.Frag) : Sp := fun vs H Q _ => ∃ (d c : Addr) (L : List V) (far : Bool), vs = [.ref d, .bl far] ∧ DrA H d c L ∧ ∀ v H' p, DrA H' d c L → SD d H H' → DV K H' v (pcD p) → p.ok → p.bd (pb far) → Q v H'
def spWide (K : PySem.W.Frag) : Sp := fun vs H Q _ => ∃ (d c : Addr) (L : List V) (k : Int), vs = [.ref d, .int k] ∧ DrA H d c L ∧ 0 ≤ k ∧ k ≤ 8 ∧ ∀ (l : Addr) (H' : Hp) (xs : List V) (ps : List Pc), DrA H' d c L → SD d H H' → H l = none → H' l = some (.lst xs) → DVs K H' xs (ps.map pcD) → Good 18 ps → ps.length ≤ 8 → Q (.ref l) H'
structure Lamp where
  h : Rat
  s : Rat
  f : Rat
  l : Rat
def lampD (x : Lamp) : PyData := .tuple [frD x.h, frD x.s, frD x.f, frD x.l]
structure LpB (n : Nat) (x : Lamp) : Prop where
  h : Bd n x.h
  s : Bd n x.s
  f : Bd n x.f
  l : Bd n x.l
  o : ¬ x.l < x.f
def spLamp (K : PySem.W.Frag) : Sp := fun vs H Q _ => ∃ (d c : Addr) (L : List V), vs = [.ref d] ∧ DrA H d c L ∧ ∀ (v : V) (H' : Hp) (x : Lamp), DrA H' d c L → SD d H H' → DV K H' v (lampD x) → LpB 12 x → Q v H'
def lray (h s u : Rat) : Ray := (h + s * u, u)
def hgt (t : Tab) (h s u T : Rat) : Rat := (t.by (lray h s u)).1 + T * (t.by (lray h s u)).2
def ordD (p q : Rat) : PyData := if q < p then .tuple [frD q, frD p] else .tuple [frD p, frD q]
def ROrd : List PyData → PyData → Prop := fun ds d => ∃ p q, ds = [frD p, frD q] ∧ Sm p ∧ Sm q ∧ d = ordD p q
def pairD (p q : Rat) : PyData := .tuple [frD p, frD q]
def RHgt : List PyData → PyData → Prop := fun ds d => ∃ t h s u T n m k, ds = [tabD t, pairD h s, frD u, frD T] ∧ Tb n t ∧ Bd m h ∧ Bd m s ∧ Bd m u ∧ Bd k T ∧ 2 * (2 * n + 4 * m + 2) + k ≤ 3800 ∧ d = frD (hgt t h s u T)
def RSpots : List PyData → PyData → Prop := fun ds d => ∃ ps h s u0 u1 T n m k, ds = [benchD ps, pairD h s, pairD u0 u1, frD T] ∧ Good n ps ∧ Bd m h ∧ Bd m s ∧ Bd m u0 ∧ Bd m u1 ∧ Bd k T ∧ 2 * (2 * (2 + ps.length * (n + 1) + n) + 4 * m + 2) + k ≤ 3800 ∧ d = ordD (hgt (tabOf ps) h s u0 T) (hgt (tabOf ps) h s u1 T)
def RBlur : List PyData → PyData → Prop := fun ds d => ∃ ps h s u0 u1 T n m k, ds = [benchD ps, pairD h s, pairD u0 u1, frD T] ∧ Good n ps ∧ Bd m h ∧ Bd m s ∧ Bd m u0 ∧ Bd m u1 ∧ Bd k T ∧ 2 * (2 * (2 + ps.length * (n + 1) + n) + 4 * m + 2) + k ≤ 3800 ∧ d = frD (if hgt (tabOf ps) h s u1 T < hgt (tabOf ps) h s u0 T then hgt (tabOf ps) h s u0 T - hgt (tabOf ps) h s u1 T else hgt (tabOf ps) h s u1 T - hgt (tabOf ps) h s u0 T)
theorem ord_dv {K : PySem.W.Frag} {H : Hp} {v : V} {p q : Rat} (h : DV K H v (ordD p q)) : DV K H v (pairD (if q < p then q else p) (if q < p then p else q)) := by
  unfold ordD at h
  by_cases c : q < p
  · rw [if_pos c] at h ⊢; rw [if_pos c]; exact h
  · rw [if_neg c] at h ⊢; rw [if_neg c]; exact h
theorem hgt_bd {t : Tab} {h s u T : Rat} {n m k : Nat} (ht : Tb n t) (bh : Bd m h) (bs : Bd m s) (bu : Bd m u) (bT : Bd k T) : Bd (2 * (2 * n + 4 * m + 2) + k + 1) (hgt t h s u T) := by
  have by1 : Bd (3 * m + 1) (h + s * u) := (bh.add (bs.mul bu)).mono (by omega)
  have y1 : Bd (2 * n + 4 * m + 2) (t.by (lray h s u)).1 := ((ht.a.mul by1).add (ht.b.mul bu)).mono (by omega)
  have y2 : Bd (2 * n + 4 * m + 2) (t.by (lray h s u)).2 := ((ht.c.mul by1).add (ht.d.mul bu)).mono (by omega)
  exact (y1.add (bT.mul y2)).mono (by omega)
end Lib
namespace Lib
open PySem L2 Fr Op
theorem cut4a (a b c d : V) : cutV [a, b, c, d] none (some 2) = [a, b] := rfl
theorem nw4a (a b c d : V) : ¬ (HT.sIx [a, b, c, d].length 0 none = 0 ∧ HT.sIx [a, b, c, d].length [a, b, c, d].length (some 2) = [a, b, c, d].length) := by
  show ¬ (HT.sIx 4 0 none = 0 ∧ HT.sIx 4 4 (some 2) = 4)
  decide
end Lib
namespace Lib
open PySem L2 Fr Op
def mn (p q : Rat) : Rat := if q < p then q else p
def mx (p q : Rat) : Rat := if q < p then p else q
def slBy (l : Lim) (h s f g : Rat) : Option (Rat × Rat) :=
  if l.a * s + l.b = 0 then (if ¬ 0 < l.lo - l.a * h ∧ ¬ l.hi - l.a * h < 0 then some (f, g) else none)
  else if mn g (mx ((l.lo - l.a * h) / (l.a * s + l.b)) ((l.hi - l.a * h) / (l.a * s + l.b))) < mx f (mn ((l.lo - l.a * h) / (l.a * s + l.b)) ((l.hi - l.a * h) / (l.a * s + l.b))) then none
  else some (mx f (mn ((l.lo - l.a * h) / (l.a * s + l.b)) ((l.hi - l.a * h) / (l.a * s + l.b))), mn g (mx ((l.lo - l.a * h) / (l.a * s + l.b)) ((l.hi - l.a * h) / (l.a * s + l.b))))
def slOf : List Lim → Rat → Rat → Rat → Rat → Option (Rat × Rat)
  | [], _, _, f, g => some (f, g)
  | l :: ls, h, s, f, g => match slBy l h s f g with
    | none => none
    | some (f', g') => slOf ls h s f' g'
def quots (ls : List Lim) (h s : Rat) : List Rat := ls.flatMap fun l => if l.a * s + l.b = 0 then [] else [(l.lo - l.a * h) / (l.a * s + l.b), (l.hi - l.a * h) / (l.a * s + l.b)]
theorem mn_or (p q : Rat) : mn p q = p ∨ mn p q = q := by unfold mn; split <;> simp
theorem mx_or (p q : Rat) : mx p q = p ∨ mx p q = q := by unfold mx; split <;> simp
theorem by_ends {l : Lim} {h s f g f' g' : Rat} (e : slBy l h s f g = some (f', g')) : f' ∈ f :: quots [l] h s ∧ g' ∈ g :: quots [l] h s ∧ (¬ g < f → ¬ g' < f') := by
  unfold slBy at e
  have eq : quots [l] h s = if l.a * s + l.b = 0 then [] else [(l.lo - l.a * h) / (l.a * s + l.b), (l.hi - l.a * h) / (l.a * s + l.b)] := by unfold quots; simp
  rw [eq]
  by_cases hr : l.a * s + l.b = 0
  · rw [if_pos hr] at e ⊢
    split at e
    · cases e; exact ⟨by simp, by simp, fun h => h⟩
    · cases e
  · rw [if_neg hr] at e ⊢
    generalize (l.lo - l.a * h) / (l.a * s + l.b) = e0 at e ⊢
    generalize (l.hi - l.a * h) / (l.a * s + l.b) = e1 at e ⊢
    split at e
    · cases e
    · rename_i hc
      injection e with e
      injection e with ef eg
      subst ef eg
      refine ⟨?_, ?_, fun _ => hc⟩
      · rcases mx_or f (mn e0 e1) with z | z
        · rw [z]; simp
        · rw [z]; rcases mn_or e0 e1 with z | z <;> rw [z] <;> simp
      · rcases mn_or g (mx e0 e1) with z | z
        · rw [z]; simp
        · rw [z]; rcases mx_or e0 e1 with z | z <;> rw [z] <;> simp
theorem of_ends : ∀ {ls : List Lim} {h s f g f' g' : Rat}, slOf ls h s f g = some (f', g') → f' ∈ f :: quots ls h s ∧ g' ∈ g :: quots ls h s ∧ (¬ g < f → ¬ g' < f')
  | [], h, s, f, g, f', g', e => by
    have e : some (f, g) = some (f', g') := e
    cases e
    exact ⟨by simp, by simp, fun h => h⟩
  | l :: ls, h, s, f, g, f', g', e => by
    have e : (match slBy l h s f g with | none => none | some (x, y) => slOf ls h s x y) = some (f', g') := e
    have eq : quots (l :: ls) h s = quots [l] h s ++ quots ls h s := by unfold quots; simp
    rw [eq]
    cases e1 : slBy l h s f g with
    | none => rw [e1] at e; cases e
    | some p =>
      obtain ⟨x, y⟩ := p
      rw [e1] at e
      obtain ⟨a, b, c⟩ := by_ends e1
      obtain ⟨a2, b2, c2⟩ := of_ends e
      refine ⟨?_, ?_, fun z => c2 (c z)⟩
      · rcases List.mem_cons.mp a2 with rfl | h
        · rcases List.mem_cons.mp a with rfl | h
          · exact List.mem_cons_self
          · exact List.mem_cons_of_mem _ (List.mem_append_left _ h)
        · exact List.mem_cons_of_mem _ (List.mem_append_right _ h)
      · rcases List.mem_cons.mp b2 with rfl | h
        · rcases List.mem_cons.mp b with rfl | h
          · exact List.mem_cons_self
          · exact List.mem_cons_of_mem _ (List.mem_append_left _ h)
        · exact List.mem_cons_of_mem _ (List.mem_append_right _ h)
theorem quots_bd {ls : List Lim} {h s : Rat} {n m : Nat} (hl : ∀ l ∈ ls, LimOk n l) (bh : Bd m h) (bs : Bd m s) : ∀ q ∈ quots ls h s, Bd (4 * n + 2 * m + 2) q := by
  intro q hq
  unfold quots at hq
  obtain ⟨l, hl', hq⟩ := List.mem_flatMap.mp hq
  obtain ⟨ba, bb, blo, bhi, _⟩ := hl l hl'
  by_cases hr : l.a * s + l.b = 0
  · rw [if_pos hr] at hq; cases hq
  · rw [if_neg hr] at hq
    have br := (ba.mul bs).add bb
    simp only [List.mem_cons, List.not_mem_nil, or_false] at hq
    rcases hq with rfl | rfl
    · exact ((blo.sub (ba.mul bh)).div br hr).mono (by omega)
    · exact ((bhi.sub (ba.mul bh)).div br hr).mono (by omega)
def opairD : Option (Rat × Rat) → PyData
  | none => .none
  | some (f, g) => pairD f g
def RMn : List PyData → PyData → Prop := fun ds d => ∃ p q, ds = [frD p, frD q] ∧ Sm p ∧ Sm q ∧ d = frD (mn p q)
def RMx : List PyData → PyData → Prop := fun ds d => ∃ p q, ds = [frD p, frD q] ∧ Sm p ∧ Sm q ∧ d = frD (mx p q)
theorem ord_pair (p q : Rat) : ordD p q = pairD (mn p q) (mx p q) := by
  unfold ordD mn mx
  split <;> rfl
def RSlBy : List PyData → PyData → Prop := fun ds d => ∃ l h s f g n m B, ds = [limD l, pairD h s, frD f, frD g] ∧ LimOk n l ∧ Bd m h ∧ Bd m s ∧ Bd B f ∧ Bd B g ∧ 4 * n + 2 * m + 2 ≤ B ∧ B ≤ 3900 ∧ d = opairD (slBy l h s f g)
def RStr2 : List PyData → PyData → Prop := fun ds d => ∃ f g, ds = [frD f, frD g] ∧ Sm f ∧ Sm g ∧ ¬ g < f ∧ d = .bool true
def RStr2N : List PyData → PyData → Prop := fun ds d => ∃ f g, ds = [frD f, frD g] ∧ Sm f ∧ Sm g ∧ ¬ g < f ∧ d = .none
def RSlOf : List PyData → PyData → Prop := fun ds d => ∃ ps h s f g n m B, ds = [benchD ps, pairD h s, frD f, frD g] ∧ Good n ps ∧ Bd m h ∧ Bd m s ∧ Bd B f ∧ Bd B g ∧ ¬ g < f ∧ 4 * (2 + ps.length * (n + 1) + n) + 2 * m + 2 ≤ B ∧ B ≤ 3900 ∧ d = opairD (slOf (lims ps) h s f g)
theorem slOf_drop {ls : List Lim} {i : Nat} {l : Lim} (hl : ls[i]? = some l) (h s f g : Rat) : slOf (ls.drop i) h s f g = match slBy l h s f g with | none => none | some (f', g') => slOf (ls.drop (i + 1)) h s f' g' := by
  obtain ⟨hi, e⟩ := List.getElem?_eq_some_iff.mp hl
  rw [show ls.drop i = l :: ls.drop (i + 1) by rw [← e]; exact List.drop_eq_getElem_cons hi]
  rfl
end Lib
namespace Lib
open PySem L2 Fr Op
end Lib
namespace Lib
open PySem L2 Fr Op
def ab (q : Rat) : Rat := if q < 0 then -q else q
theorem ab_mul (p q : Rat) : ab (p * q) = ab p * ab q := by
  unfold ab
  by_cases hp : p < 0 <;> by_cases hq : q < 0
  · have h : 0 < p * q := by
      have := Rat.mul_pos (show 0 < -p by grind) (show 0 < -q by grind)
      grind
    rw [if_pos hp, if_pos hq, if_neg (by grind)]; grind
  · rw [if_pos hp, if_neg hq]
    by_cases z : q = 0
    · subst z; rw [if_neg (by grind)]; grind
    · have := Rat.mul_pos (show 0 < -p by grind) (show 0 < q by grind)
      rw [if_pos (by grind)]; grind
  · rw [if_neg hp, if_pos hq]
    by_cases z : p = 0
    · subst z; rw [if_neg (by grind)]; grind
    · have := Rat.mul_pos (show 0 < p by grind) (show 0 < -q by grind)
      rw [if_pos (by grind)]; grind
  · have := Rat.mul_nonneg (show 0 ≤ p by grind) (show 0 ≤ q by grind)
    rw [if_neg hp, if_neg hq, if_neg (by grind)]
theorem ab_zero {q : Rat} : ab q = 0 ↔ q = 0 := by unfold ab; split <;> grind
theorem ab_bd {n : Nat} {q : Rat} (h : Bd n q) : Bd n (ab q) := by
  unfold ab
  split
  · exact ⟨by rw [Rat.neg_num, Int.natAbs_neg]; exact h.n, by rw [Rat.neg_den]; exact h.d⟩
  · exact h
theorem frD_ab (q : Rat) : frD (ab q) = .tuple [.int (if q.num < 0 then -q.num else q.num), .int (q.den : Int)] := by
  unfold ab
  by_cases c : q < 0
  · rw [if_pos c, if_pos (Int.not_le.mp fun z => Rat.not_lt.mpr (Rat.num_nonneg.mp z) c), frD_neg, Int.zero_sub]
  · rw [if_neg c, if_neg (Int.not_lt.mpr (Rat.num_nonneg.mpr (Rat.not_lt.mp c)))]; rfl
def blr (t : Tab) (x : Lamp) (T : Rat) : Rat := ab (hgt t x.h x.s x.l T - hgt t x.h x.s x.f T)
theorem hgt_sub (t : Tab) (h s u v T : Rat) : hgt t h s v T - hgt t h s u T = ((spread t s).1 + T * (spread t s).2) * (v - u) := by
  unfold hgt lray Tab.by spread
  dsimp only
  grind
theorem blr_eq (t : Tab) (x : Lamp) (T : Rat) : blr t x T = ab ((spread t x.s).1 + T * (spread t x.s).2) * ab (x.l - x.f) := by
  unfold blr
  rw [hgt_sub, ab_mul]
theorem blur_blr (t : Tab) (x : Lamp) (T : Rat) : (if hgt t x.h x.s x.l T < hgt t x.h x.s x.f T then hgt t x.h x.s x.f T - hgt t x.h x.s x.l T else hgt t x.h x.s x.l T - hgt t x.h x.s x.f T) = blr t x T := by
  unfold blr ab
  split <;> split <;> grind
def growing (t : Tab) (x : Lamp) : Rat := (spread t x.s).2 * (x.l - x.f)
def mid (t : Tab) (s : Rat) : Rat := 0 - (spread t s).1 / (spread t s).2
def reach (t : Tab) (x : Lamp) (m : Rat) : Rat := m / ab (growing t x)
def sharpD (t : Tab) (x : Lamp) (m : Rat) : PyData := if growing t x = 0 then (if m < blr t x 0 then .tuple [.str "none"] else .tuple [.str "all"]) else .tuple [.str "from", frD (mid t x.s - reach t x m), frD (mid t x.s + reach t x m)]
theorem tab154 {ps : List Pc} (g : Good 18 ps) (h : ps.length ≤ 8) : Tb 154 (tabOf ps) := Tb.mono (tab_bd (m := 18) g.bd) (by omega)
end Lib
namespace L2
open PySem PySem.Spec PyProof.Rows PySem.Builtin
end L2
namespace Lib
open PySem L2 Fr Op
end Lib
namespace Lib
open PySem L2 Fr Op
end Lib
namespace Lib
open PySem L2 Fr Op
end Lib
namespace Lib
open PySem L2 Fr Op
end Lib
namespace Lib
open PySem L2 Fr Op
end Lib
namespace L2
open PySem PySem.Spec PyProof.Rows PySem.Builtin
end L2
namespace L2
open PySem PySem.Spec PyProof.Rows PySem.Builtin
def StayZ (z TO i1 i2 : Addr) (h h' : Heap) : Prop := ∀ c o, c ≠ z → c ≠ TO → c ≠ i1 → c ≠ i2 → h.get? c = some o → h'.get? c = some o
end L2
namespace L2
open PySem PySem.Spec PyProof.Rows PySem.Builtin
end L2
namespace L2
open PySem PySem.Spec PyProof.Rows PySem.Builtin
section
variable {prog : Program} {w : World} {A : Around} {E : Value → Shared → Prop}
theorem draw_lst {it l : Addr} {vs : Array Value} (ne : l ≠ it) : ∀ (n i : Nat) (s : Shared) (Q : List Value → Shared → Prop), s.heap.IsListIter it l i → s.heap.IsList l vs → i + n ≤ vs.size →
    (∀ h', h'.IsListIter it l (i + n) → Heap.SameBut it s.heap h' → Q ((vs.toList.drop i).take n) { s with heap := h' }) → wpAny (model prog w) A (draw (.ref it) n) Q E s
  | 0, i, s, Q, j, _, _, R => by
    show wpAny _ A (pure []) Q E s
    refine wpAny_pure ?_
    have := R s.heap j (Heap.SameBut.refl ..)
    rw [List.take_zero] at this
    exact this
  | n + 1, i, s, Q, j, hl, le, R => by
    have lt : i < vs.size := by omega
    show wpAny _ A (pyNext (.ref it) >>= _) Q E s
    refine wpAny_bind (wpAny_pyNext_list_item j hl (x := vs[i]) (by simp [lt]) fun g1 j1 b1 => ?_)
    refine wpAny_bind (wpAny_holding (draw_lst ne n (i + 1) _ _ j1 (hl.extBut b1.extBut ne) (by omega) fun g2 j2 b2 => wpAny_pure ?_))
    have e : vs.toList.drop i = vs[i] :: vs.toList.drop (i + 1) := by simp [List.drop_eq_getElem_cons, lt]
    have r := R g2 (by rw [show i + (n + 1) = i + 1 + n by omega]; exact j2) (b1.trans b2)
    rw [e, List.take_succ_cons] at r
    exact r
theorem unpackItems_lst {s : Shared} {l : Addr} {vs : Array Value} {Q : List Value → Shared → Prop} (hh : A.handled = none) (hl : s.heap.IsList l vs)
    (R : ∀ h', Heap.ExtBut s.heap.objs.size s.heap h' → Q vs.toList { s with heap := h' }) : wpAny (model prog w) A (unpackItems (.ref l) vs.size none) Q E s := by
  have ne : l ≠ s.heap.objs.size := by
    obtain ⟨o, ho, _⟩ := hl
    exact Nat.ne_of_lt (Heap.lt_size ho)
  unfold unpackItems notIterableAtAll
  refine wpAny_bind (wpAny_bind (wpAny_specialOf hl.typeIs F.slot_list_iter.lookup (wpAny_pure ?_)))
  simp only [Bool.false_eq_true, if_false]
  refine wpAny_bind (wpAny_holding (wpAny_pyIter_list hl ?_))
  refine wpAny_bind (wpAny_holding (draw_lst ne vs.size 0 _ _ ⟨_, Heap.get?_push_size _ rfl, rfl, rfl⟩ (Heap.IsList.push hl _) (by omega) fun g1 j1 b1 => ?_))
  have e : List.take vs.size (List.drop 0 vs.toList) = vs.toList := by
    rw [List.drop_zero]
    exact List.take_of_length_le (by simp)
  rw [e, if_neg (by simp)]
  have hl1 : g1.IsList l vs := (Heap.IsList.push hl _).extBut b1.extBut ne
  refine wpAny_bind (wpAny_holding (wpAny_pyNext_list_end hh j1 hl1 (by simp) fun g2 b2 => ?_))
  simp only [Option.isSome_none, Bool.false_eq_true, if_false]
  exact wpAny_pure (R g2 fun b o hb x => b2 b o hb (b1.extBut b o hb (Heap.get?_push_of_some _ x)))
theorem assign_Tuple_lst {s : Shared} {env : Env} {elts : List Expr} {x1} {pos : Pos} {l : Addr} {vs : Array Value} {Q : Unit → Shared → Prop} (hh : A.handled = none) (hl : s.heap.IsList l vs)
    (hn : (assignEach elts env).length = vs.size) (hst : (assignEach elts env).findIdx? (·.1) = none)
    (R : ∀ h', Heap.ExtBut s.heap.objs.size s.heap h' → wpAny (model prog w) A (assignInOrder ((assignEach elts env).map (·.2)) vs.toList) Q E { s with heap := h' }) :
    wpAny (model prog w) A (assign (.Tuple elts x1 pos) env (.ref l)) Q E s := by
  rw [arm_assign_Tuple]
  refine wpAny_bind (wpAny_standAt ?_)
  unfold unpack
  rw [hn, hst]
  exact wpAny_bind (wpAny_holding (unpackItems_lst hh hl R))
end
end L2
namespace L2
open PySem PySem.Spec PyProof.Rows PySem.Builtin
section
variable {X : Cx} {pos : Pos}
def gLst (K : PySem.W.Frag) (n : Nat) (t : TGs) : TG := fun v σ H Q => ∃ a xs, v = .ref a ∧ SqL K H a xs ∧ xs.length = n ∧ t xs σ H Q
theorem pg_lst {es : List Expr} {k : Nat} {t : TGs} {n : Nat} (hc : X.calm = true) (h : PGs X es t)
    (hn : (assignEach es X.env).length = n := by rfl) (hst : (assignEach es X.env).findIdx? (·.1) = none := by rfl) : PG X (.Tuple es k pos) (gLst X.K n t) := by
  intro pins s σ H v u Q I r hw
  obtain ⟨a, xs, rfl, hq, hl, hw⟩ := hw
  cases r
  obtain ⟨its, rv, ht, hz⟩ := I.list hq
  refine assign_Tuple_lst (I.ok.hd hc) ht.isList (by simp [hn, ← hl, rv.length]) hst fun h' hx => ?_
  exact h pins _ σ H xs _ Q (I.kept (t' := s.toks) fun b o e => hx b o (Nat.ne_of_lt (Heap.lt_size e)) e) (by simpa using rv) hw
end
end L2
namespace L2
open PySem PySem.Spec PyProof.Rows
end L2
namespace Lib
open PySem L2 Fr Op
end Lib
namespace Op
open Fr
end Op
namespace Lib
open PySem L2 Fr Op
end Lib
namespace Op
open Fr
end Op
namespace Lib
open PySem L2 Fr Op
end Lib
namespace Lib
open PySem L2 Fr Op
end Lib
namespace L2
open PySem PySem.Spec PyProof.Rows PySem.Builtin
end L2
namespace Op
open Fr
end Op
namespace Lib
open PySem L2 Fr Op
end Lib
namespace Op
open Fr Lib
end Op
namespace Lib
open PySem L2 Fr Op
end Lib
namespace Lib
open PySem L2 Fr Op
end Lib
namespace L2
open PySem PySem.Spec PyProof.Rows PySem.Builtin
end L2
namespace Lib
open PySem L2 Fr Op
end Lib
namespace L2
open PySem PySem.Spec PyProof.Rows
end L2
namespace Lib
open PySem L2 Fr Op
end Lib
namespace L2
open PySem PySem.Spec PyProof.Rows
end L2
namespace Lib
open PySem L2 Fr Op
end Lib
namespace L2
open PySem PySem.Spec PyProof.Rows
abbrev TBd := XK → (Hp → Prop) → St → Hp → Prop
def PTB (X : Cx) (body : List Stmt) (t : TBd) : Prop := ∀ (pins : List (Addr × Obj)) (s : Shared) (σ : St) (H : Hp) (E : XK) (k : Hp → Prop), Inv X pins σ H s → t E k σ H →
  wpAny (model X.prog X.w) X.A (execs body X.env) (fun f s1 => f = .next ∧ ∃ H2, Inv X pins σ H2 s1 ∧ k H2) (fun e s' => ∃ H1 s1, Inv X pins σ H1 s1 ∧ CX1 X.prog X.w X.stack H1 s1 E e s') s
section
variable {X : Cx} {c : Bool} {k : Nat} {ps : List Str} {sp : Sp} {x xc n : Str} {p pos cpos epos np hp : Pos} {e : Expr} {es : List Expr} {t : TA} {Bc : Addr} {b₀ : Stmt} {suite : List Stmt} {ts : TS} {i : Nat}
theorem ptb_call (C : CalB X.prog X.w X.K X.mg X.base c k x ps sp) (hr : RoomB c k X.A) (ha : PA X.nox (e :: es) t) (hg : Gl X x := by rfl) (hdb : (x == ("__debug__" : Str)) = false := by decide)
    (he : starEach (e :: es) X.env = (false, eval e X.env) :: starEach es X.env := by rfl) (hpl : (backTo cpos (starEach es X.env)).any (·.1) = false := by rfl) (hsw : swapsWith (.Call (.Name x p) (e :: es) [] cpos) none epos.line X.env = pure false := by rfl) :
    PTB X [.Expr (.Call (.Name x p) (e :: es) [] cpos) epos] (fun E k σ H => t σ H fun vs H1 => sp (vs ++ []) H1 (fun _ H2 => k H2) E) := by
  obtain ⟨f, fd, F, hm, hk, hb⟩ := C.ex
  intro pins s σ H E k I h
  refine wpAny_execs_cons (wpAny_Expr_any (wpAny_Call_Name_kw (ld_glob I hg hm ?_ hdb)) I.quiet hsw)
  refine PySem.W.callWith_K (h₀ := X.base) I.ok.mod.kin hk (thn (PA.any ha cpos I h) fun us s1 ⟨vs, H1, I1, r, q⟩ => ⟨I1.kIn, ?_⟩) he hpl
  exact thn (run_fnB F hr hb I1 r q fun e s' hx => ⟨H1, s1, I1, hx⟩) fun v s2 ⟨v', H2, I2, r2, q2⟩ => wpAny_execs_nil ⟨rfl, H2, I2, q2⟩
theorem ptb_if {cd : Expr} {tc : TT} {a b : List Stmt} {ta tb : TBd} (hc : PT X.nox cd tc) (ha : PTB X a ta) (hb : PTB X b tb) : PTB X [.If cd a b pos] (fun E k σ H => tc σ H fun d H1 => if d = true then ta E k σ H1 else tb E k σ H1) := by
  intro pins s σ H E k I h
  refine wpAny_execs_cons (wpAny_If (wpAny_mono (hc pins s σ H _ (I.wish _) h) (fun d s1 hd => ?_) (fun _ _ z => z.elim)))
  obtain ⟨H1, I1, q⟩ := hd
  have I1 := I1.unwish
  cases d with
  | true =>
    rw [if_pos rfl] at q
    exact wpAny_mono (ha pins s1 σ H1 E k I1 q) (fun f s2 ⟨e, r⟩ => by subst e; exact wpAny_execs_nil ⟨rfl, r⟩) (fun _ _ z => z)
  | false =>
    rw [if_neg Bool.false_ne_true] at q
    exact wpAny_mono (hb pins s1 σ H1 E k I1 q) (fun f s2 ⟨e, r⟩ => by subst e; exact wpAny_execs_nil ⟨rfl, r⟩) (fun _ _ z => z)
end
end L2
namespace L2
open PySem PySem.Spec PyProof.Rows PySem.Builtin
open PySem.AutoSeq1 (wpAny_loadPart')
end L2
namespace L2
open PySem PySem.Spec PySem.Calls PyProof.Rows PySem.W Builtin Builtin.ObjectAttr
abbrev bmVE : List Value := [.type "ValueError", .type "Exception", .type "BaseException", .type "object"]
structure ExcI (K : PySem.W.Frag) (C CB fI : Addr) : Prop where
  ob : ∃ nm q N bs sn sub ab col dd k0 k1 k2 k3 k5, K.lookup C = some (excClassObj nm q C N bs (.ref CB :: bmVE) true sn sub ab col dd k0 k1 k2 k3 k5 "ValueError.__new__")
  cb : PySem.W.excIn K CB bmVE "ValueError.__new__" = true
  it : PySem.W.findIn K (.ref C) "__init__" = some (some (.ref fI))
  kp : PySem.W.keepIn K (.ref C) = true
  hm : PySem.W.mroIn K C (.type "object") = some true
  hd : PySem.W.hasDictIn K C = true
  fn : PySem.W.typeIn K (.ref fI) = some (.type "function")
  sa : PySem.W.findIn K (.ref C) "__setattr__" = some (some (.builtin "object.__setattr__"))
  na : PySem.W.findIn K (.ref C) "at" = some none
  rd : PySem.W.readsIn K CB (.type "type") = true
  fc : PySem.W.findCls K (.ref CB) (.type "type") "__init__" = some (.val (.builtin "ValueError.__init__"))
  sg : PySem.W.specialIn K (.ref CB) "__getattribute__" = some (some (.builtin "type.__getattribute__"))
theorem ExcI.obj {K : PySem.W.Frag} {C CB fI : Addr} {h : Heap} (O : ExcI K C CB fI) (X : K.In h) :
    ∃ nm q N bs sn sub ab col dd k0 k1 k2 k3 k5, h.get? C = some (excClassObj nm q C N bs (.ref CB :: bmVE) true sn sub ab col dd k0 k1 k2 k3 k5 "ValueError.__new__") ∧ OwnTail h bmVE (.ref CB :: bmVE) := by
  obtain ⟨nm, q, N, bs, sn, sub, ab, col, dd, k0, k1, k2, k3, k5, l⟩ := O.ob
  obtain ⟨bm, N', nm', qn', bs', hdct', sn', sub', ab', col', dd', a0, a1, a2, a3, a5, mN, hC, hN, hni, TL⟩ := exc_obj X O.cb
  exact ⟨nm, q, N, bs, sn, sub, ab, col, dd, k0, k1, k2, k3, k5, X _ _ l, .own hC hN hni .base⟩
abbrev tupO (vs : List Value) : Obj := { cls := .type "tuple", data := .seq vs.toArray }
abbrev excN (C t : Addr) : Obj := { cls := .ref C, data := .fields #[.ref t, .none, .none, .none, .bool false, .none] }
section
variable {prog : Program} {w : World} {A : Around} {E : Value → Shared → Prop} {h : Heap} {g : Array GenState} {d : Drawn} {t : Nat} {os : OsState} {K : PySem.W.Frag} {C CB fI : Addr}
theorem tcall_excI {rest : List Value} {Q : Fin → Shared → Prop} (X : K.In h) (O : ExcI K C CB fI)
    (hq : wpAny (model prog w) A (call (.ref fI) (.ref (h.objs.size + 1) :: rest)) (fun r s' => r = .none ∧ Q (.done (.ret (.ref (h.objs.size + 1)))) s') E ⟨(h.push (tupO rest)).push (excN C h.objs.size), g, d, t, os⟩) (hrest : rest.length ≤ sizeLine) :
    wpAny (model prog w) A (Builtin.«type.__call__» ⟨.ref C :: rest, []⟩) Q E ⟨h, g, d, t, os⟩ := by
  obtain ⟨nm, q, N, bs, sn, sub, ab, col, dd, k0, k1, k2, k3, k5, hC, T⟩ := O.obj X
  have kk : ∀ b o, h.get? b = some o → ((h.push (tupO rest)).push (excN C h.objs.size)).get? b = some o := fun b o e => Heap.get?_push_of_some _ (Heap.get?_push_of_some _ e)
  have X1 := X.keeps kk
  have hC1 := kk _ _ hC
  have hx : ((h.push (tupO rest)).push (excN C h.objs.size)).get? (h.objs.size + 1) = some (excN C h.objs.size) := by heap_get
  have hcC : (Value.ref C :: (.ref CB :: bmVE)).contains (.ref C) = true := by simp
  repeat (first | with_reducible refine wpAny_loadPart_at hC ?_ | with_reducible refine wpAny_madeBy_exc hC ?_ | wp_step)
  refine codeAny_call_builtin_code (Code.quiet_builtin _ F.excBase_ValueError.quiet) (wpAny_check_new_subT F.excBase_ValueError T hC (codeAny_exc_new_subT F.excBase_ValueError T hC ?_ hrest))
  show wpAny _ _ _ _ _ _; unfold isInstance
  repeat (first | with_reducible refine wpAny_loadPart_at hx ?_ | (with_reducible refine wpAny_isSubtype_exc hC1 ?_; rw [hcC]) | wp_step)
  show wpAny _ _ (typeLookup (.ref C) _) _ _ _; refine (looks_findIn X1 O.it).at (wpAny_holding (wpAny_bind ((bind_fn X1 _ O.fn).at ?_)))
  refine wpAny_bind (wpAny_mono hq (fun r s' ⟨e, z⟩ => ?_) fun _ _ x => x)
  subst e
  wp_walk
  exact z
theorem call_excI {rest : List Value} {Q : Value → Shared → Prop} (X : K.In h) (O : ExcI K C CB fI)
    (hq : wpAny (model prog w) (A.under (.builtin "type.__call__" ⟨.ref C :: rest, []⟩)) (call (.ref fI) (.ref (h.objs.size + 1) :: rest)) (fun r s' => r = .none ∧ Q (.ref (h.objs.size + 1)) s') E ⟨(h.push (tupO rest)).push (excN C h.objs.size), g, d, t, os⟩) (hrest : rest.length ≤ sizeLine) :
    wpAny (model prog w) A (call (.ref C) rest) Q E ⟨h, g, d, t, os⟩ := by
  obtain ⟨nm, q, N, bs, sn, sub, ab, col, dd, k0, k1, k2, k3, k5, hC, T⟩ := O.obj X
  have l1 := tc_lookup
  have l2 := tc_bind (.ref C)
  have l3 : (⟨h, g, d, t, os⟩ : Shared).TypeIs (.ref C) "type" := ⟨_, hC, rfl⟩
  refine wpAny_call (codeAny_of_tree ?_)
  show wpAny _ _ (callAny (.ref C) _) _ _ _
  repeat (any_goals (first | assumption | with_reducible refine wpAny_loadPart_at hC ?_ | wp_step))
  exact ⟨rfl, codeAny_call_builtin_at (Code.quiet_builtin _ (by decide +kernel)) entry_typeCall (wpAny_check_type_call_sub hC (tcall_excI X O hq hrest))⟩
theorem raise_obj {s : Shared} {env : Env} {x : Sem Value} {Q : Flow → Shared → Prop} (hh : A.handled = none)
    (hx : wpAny (model prog w) A x (fun v s₁ => ∃ e t od sl, v = .ref e ∧ K.In s₁.heap ∧ ExcI K C CB fI ∧ s₁.heap.get? e = some ⟨.ref C, od, .fields #[.ref t, .none, .none, .none, .bool false, .none], sl⟩ ∧ E (.ref e) s₁) E s) : wpAny (model prog w) A (raiseStmt env (some x) none) Q E s := by
  unfold raiseStmt
  refine wpAny_bind (wpAny_mono hx (fun v s₁ ⟨e, t0, od, sl, ev, X, O, he, z⟩ => ?_) fun _ _ x => x)
  subst ev
  obtain ⟨nm, q, N, bs, sn, sub, ab, col, dd, k0, k1, k2, k3, k5, hC, T⟩ := O.obj X
  have hcB : (Value.ref C :: (.ref CB :: bmVE)).contains (.type "BaseException") = true := by rw [List.contains_cons, T.hasType (X := "BaseException") (b := true) (by decide +kernel), Bool.or_true]
  obtain ⟨hp, g, d, tk, os⟩ := s₁
  repeat (first | with_reducible refine wpAny_loadPart_at he ?_ | with_reducible refine wpAny_loadPart_at hC ?_ | (with_reducible refine wpAny_isSubtype_exc hC ?_; rw [hcB]) | wp_step)
  exact wpAny_raiseNew_none hh z
abbrev excB (C t : Addr) (od : Option Addr) (sl : Array (Option Value)) : Obj := ⟨.ref C, od, .fields #[.ref t, .none, .none, .none, .bool false, .none], sl⟩
theorem binit_run {e t0 : Addr} {u : Value} {od : Option Addr} {sl : Array (Option Value)} {Q : Value → Shared → Prop} (X : K.In h) (O : ExcI K C CB fI) (he : h.get? e = some (excB C t0 od sl))
    (hq : ∀ h' t1, h'.get? e = some (excB C t1 od sl) → (∀ b o, b ≠ e → h.get? b = some o → h'.get? b = some o) → Q .none ⟨h', g, d, t, os⟩) :
    wpAny (model prog w) A (call (.builtin "ValueError.__init__") [.ref e, u]) Q E ⟨h, g, d, t, os⟩ := by
  obtain ⟨nm, q, N, bs, sn, sub, ab, col, dd, k0, k1, k2, k3, k5, hC, T⟩ := O.obj X
  refine wpAny_call (codeAny_call_builtin F.excBase_ValueError.init.plain F.excBase_ValueError.initEntry (wpAny_check_init_subT F.excBase_ValueError T hC he rfl ?_))
  have he1 : (h.push (tupO [u])).get? e = some (excB C t0 od sl) := Heap.get?_push_of_some _ he
  wp_walk
  refine hq _ h.objs.size ?_ fun b o n z => ?_
  · rw [Heap.get?_update_self _ he1 rfl]; rfl
  · rw [Heap.get?_update_other _ _ (Ne.symm n)]; exact Heap.get?_push_of_some _ z
theorem xset_run {e t0 : Addr} {u : Value} {sl : Array (Option Value)} {Q : Unit → Shared → Prop} (X : K.In h) (O : ExcI K C CB fI) (he : h.get? e = some (excB C t0 none sl))
    (hq : ∀ h', h'.Ns1 h.objs.size (fun y => if y = "at" then some u else none) → h'.get? e = some (excB C t0 (some h.objs.size) sl) → (∀ b o, b ≠ e → h.get? b = some o → h'.get? b = some o) → Q () ⟨h', g, d, t + 2, os⟩) :
    wpAny (model prog w) A (setAttr (.ref e) "at" u) Q E ⟨h, g, d, t, os⟩ := by
  obtain ⟨nm, q, N, bs, sn, sub, ab, col, dd, k0, k1, k2, k3, k5, hC, T⟩ := O.obj X
  have J : InstAt h e (excB C t0 none sl) C none := ⟨he, rfl, rfl, trivial⟩
  have SF := PySem.F.store_object
  have LT := J.type (M := model prog w)
  have sb : Looks (model prog w) h (isInstance (.ref e) (.type "object")) true := LT.andThen (looks_mroIn X O.hm)
  have LF := looks_findIn (M := model prog w) X O.na
  refine set_plain (s := ⟨h, g, d, t, os⟩) X J O.sa (codeAny_call_builtin SF.slot.plain SF.entry (@check_slot (model prog w) _ _ ⟨h, g, d, t + 1, os⟩ "object.__setattr__" "object" "__setattr__" (.ref e) [.str "at" t, u] [] _ SF.kind SF.split sb (SF.args (.ref e) (.str "at" t) u) ?_))
  rw [osa_eq, refuse_eq]; refine wpAny_bind (wpAny_bind (LT.at (wpAny_bind (wpAny_mroOf_exc hC ?_))))
  rw [refuseLoop_ref, refuseLoop_ref, F.store_ValueError.passes]
  refine wpAny_pure (wpAny_bind (LT.at (wpAny_bind (LF.at (wpAny_bind (wpAny_pure ?_))))))
  have hes : e ≠ h.objs.size := Nat.ne_of_lt (Heap.lt_size he)
  have he1 : (h.push { cls := .type "dict", data := .dict #[] }).get? e = some (excB C t0 none sl) := Heap.get?_push_of_some _ he
  unfold storeInOwnDict ownDictForStores instanceDict
  iterate 14 (first | with_reducible refine wpAny_loadPart_at he ?_ | with_reducible refine wpAny_loadPart_at hC ?_ | wp_step)
  dsimp only
  refine wpAny_bind (wpAny_alloc' (wpAny_bind (wpAny_update' he1 (wpAny_pure ?_))))
  have g1 : ((h.push { cls := .type "dict", data := .dict #[] }).update e fun o => { cls := o.cls, dict := some h.objs.size, data := o.data, slots := o.slots }).get? h.objs.size = some { cls := .type "dict", data := .dict #[] } :=
    (Heap.get?_update_ne _ _ _ _ hes.symm).trans (Heap.get?_push_at rfl rfl)
  have g2 : ((h.push { cls := .type "dict", data := .dict #[] }).update e fun o => { cls := o.cls, dict := some h.objs.size, data := o.data, slots := o.slots }).get? e = some (excB C t0 (some h.objs.size) sl) := Heap.get?_update_self _ he1 rfl
  have g3 : ∀ b o, b ≠ e → h.get? b = some o → ((h.push { cls := .type "dict", data := .dict #[] }).update e fun o => { cls := o.cls, dict := some h.objs.size, data := o.data, slots := o.slots }).get? b = some o := fun b o n z => (Heap.get?_update_ne _ _ _ _ n).trans (Heap.get?_push_of_some _ z)
  generalize ((h.push { cls := .type "dict", data := .dict #[] }).update e fun o => { cls := o.cls, dict := some h.objs.size, data := o.data, slots := o.slots }) = hm at g1 g2 g3 ⊢
  have n1 : hm.Ns h.objs.size (fun _ => none) := ⟨_, #[], _, g1, rfl, (fun x hx => absurd hx (by simp)), fun _ => rfl⟩
  show wpAny _ _ (storeInDict h.objs.size (.str "at" t) "at" u) _ _ _
  unfold storeInDict newKeyGuard; refine wpAny_bind (wpAny_pure (wpAny_bind (wpAny_nsSet1 (Heap.Ns1.of_empty n1) fun h' n2 sb2 => ?_)))
  obtain ⟨oD, eD, pD, z1, z2, z3⟩ := n2.count (Within.cons "at" u Within.nil)
  refine wpAny_bind (wpAny_lookBehind z1 (by rw [z2]; exact pastItsLine_dict (Nat.le_trans z3 (by decide))) (wpAny_pure ?_))
  exact hq h' n2 ((sb2.2 _ hes).trans g2) fun b o n z => (sb2.2 b (Nat.ne_of_lt (Heap.lt_size z))).trans (g3 b o n z)
end
end L2
namespace L2
open PySem PySem.Spec PySem.Calls PyProof.Rows PySem.W Builtin Builtin.ObjectAttr
def XN (e C : Addr) (d : Option Addr) (h : Heap) : Prop := ∃ t sl, h.get? e = some (excB C t d sl)
abbrev xN (e C : Addr) (d : Option Addr) : HO := .ext (XN e C d)
theorem XN.stay {e C : Addr} {d : Option Addr} {h1 h2 : Heap} (x : XN e C d h1) (k : ∀ o, h1.get? e = some o → h2.get? e = some o) : XN e C d h2 := let ⟨t, sl, z⟩ := x; ⟨t, sl, k _ z⟩
theorem XN.ok {P : Program} {w : World} {H : Hp} {h : Heap} {e C : Addr} {d : Option Addr} (x : XN e C d h) : ObjOk P w H h e (xN e C d) :=
  let ⟨_, _, z⟩ := x; ⟨x, ⟨_, z⟩, fun _ _ y k => y.stay k⟩
section
variable {X : Cx} {C CB fI : Addr} {nb : Str} {e1 o value : Expr} {es : List Expr} {t : TA} {ta tv : TE} {np apos cpos epos pos pos' : Pos}
def sBinit (C : Addr) (t : TA) : TS := fun D σ H => t σ H fun vs H1 => ∃ e v d, vs = [.ref e, v] ∧ H1 e = some (xN e C d) ∧ D.nx σ H1
theorem ps_binit {pl : Sem Bool} (O : ExcI X.K C CB fI) (hm : X.mg nb = some (.ref CB)) (ha : PA X (e1 :: es) t) (hg : Gl X nb := by rfl) (hdb : (nb == ("__debug__" : Str)) = false := by decide)
    (he : starEach (e1 :: es) X.env = (false, eval e1 X.env) :: starEach es X.env := by rfl) (hpl : (backTo cpos (starEach es X.env)).any (·.1) = false := by rfl)
    (hsw : swapsWith (.Call (.Attribute (.Name nb np) "__init__" apos) (e1 :: es) [] cpos) none epos.line X.env = pure false := by rfl)
    (ht : eval (.Call (.Attribute (.Name nb np) "__init__" apos) (e1 :: es) [] cpos) X.env = (do
      let ov ← eval (.Name nb np) X.env
      standAt apos.atName
      let (f, first) ← holding [ov] (getMethod ov "__init__" pl)
      callWith cpos f first (backTo cpos (starEach (e1 :: es) X.env)) (backToKw cpos (keywordEach [] X.env))) := by rfl) :
    PS X (.Expr (.Call (.Attribute (.Name nb np) "__init__" apos) (e1 :: es) [] cpos) epos) (sBinit C t) := by
  intro pins s σ H D I h
  refine wpAny_Expr_any (PySem.W.methodCall_KW (pl := pl) (ld_glob I hg hm ?_ hdb) ht) I.quiet hsw
  refine method_cls I.kIn O.sg (cls_value I.kIn O.rd O.fc rfl ?_)
  have hA := ha cpos pins _ σ H _ (I.tok (s.toks + 1)) h
  rw [he] at hA ⊢
  refine Calls.callWith_builtin (by show (false || (backTo cpos (starEach es X.env)).any (·.1)) = false; rw [hpl] <;> rfl) (Calls.evalArgs_plain ?_)
  refine thn hA fun us s2 ⟨vs, H2, I2, r, e, v, d, ev, hx, q⟩ => ?_
  subst ev
  obtain ⟨u0, u, rfl, r0, ru⟩ := vals2 r
  cases (show u0 = Value.ref e from r0)
  obtain ⟨⟨t0, sl, ho⟩, _, _⟩ := (show ObjOk X.prog X.w H2 s2.heap e (xN e C d) from I2.hok e _ hx)
  obtain ⟨hh, g, dr, tk, os⟩ := s2
  refine binit_run I2.kIn O ho fun h' t1 he' k => ?_
  have J := I2.write (x := e) (e := e) (o := xN e C d) (t' := tk) (by rw [hx]; exact True.intro) (.inl rfl) (fun b o n => k b o n) ⟨_, he'⟩ (XN.ok ⟨t1, sl, he'⟩)
  have e2 : upd H2 e (xN e C d) = H2 := by
    funext b
    by_cases z : b = e
    · subst z; rw [upd_same, hx]
    · rw [upd_ne z]
  rw [e2] at J
  exact ⟨σ, H2, J, q⟩
theorem xset_ok {pins : List (Addr × Obj)} {σ : St} {H : Hp} {s : Shared} {A : Around} {E : Value → Shared → Prop} {y : V} {u : Value} {Q : Unit → Shared → Prop} {e : Addr} (I : Inv X pins σ H s) (O : ExcI X.K C CB fI) (hx : H e = some (xN e C none)) (ry : RelV y u)
    (h : ∀ dx s', H dx = none → dx ≠ e → Inv X pins σ (upd (upd H dx (.xd [("at", y)])) e (xN e C (some dx))) s' → Q () s') : wpAny (model X.prog X.w) A (setAttr (.ref e) "at" u) Q E s := by
  obtain ⟨⟨t0, sl, ho⟩, _, _⟩ := (show ObjOk X.prog X.w H s.heap e (xN e C none) from I.hok e _ hx)
  obtain ⟨hh, g, dr, tk, os⟩ := s
  refine xset_run I.kIn O ho fun h' n1 he' k => ?_
  have ne : e ≠ hh.objs.size := Nat.ne_of_lt (Heap.lt_size ho)
  obtain ⟨oD, es, ep, hD, dD, rD⟩ := id n1
  have fD : oD.isFreed = false := (Heap.get?_some_iff.mp hD).2
  have hn : H hh.objs.size = none := I.hok.fresh (Nat.le_refl _)
  have r1 : ∀ f, RelO (List.lookup f [(("at" : Str), y)]) (if f = "at" then some u else none) := fun f => by
    by_cases z : f = "at"
    · subst z; rw [if_pos rfl]; exact ry
    · rw [if_neg z, List.lookup_cons, show (f == ("at" : Str)) = false from beq_false_of_ne z]; exact True.intro
  have J1 := I.laid (a := hh.objs.size) (o := .xd [("at", y)]) (h' := hh.push oD) (t' := tk + 2) (fun b o z => Heap.get?_push_of_some _ z) (Nat.le_refl _) ⟨_, ⟨oD, es, ep, Heap.get?_push_size hh fD, dD, rD⟩, r1⟩
  have J2 := J1.write (x := e) (e := e) (o := xN e C (some hh.objs.size)) (h' := h') (t' := tk + 2) (by rw [upd_ne ne, hx]; exact True.intro) (.inl rfl) (fun b o n z => ?_) ⟨_, he'⟩ (XN.ok ⟨t0, sl, he'⟩)
  · exact h hh.objs.size _ hn (Ne.symm ne) J2
  · rcases Heap.get?_push_cases z with ⟨zb, zo⟩ | z
    · rw [zb, zo]; exact hD
    · exact k b o n z
def sSetAt (C : Addr) (ta tv : TE) : TS := fun D σ H => tv σ H fun y H1 => ta σ H1 fun x H2 => ∃ e, x = .ref e ∧ H2 e = some (xN e C none) ∧ ∀ dx, H2 dx = none → dx ≠ e → D.nx σ (upd (upd H2 dx (.xd [("at", y)])) e (xN e C (some dx)))
theorem ps_setat (O : ExcI X.K C CB fI) (ha : PE X o ta) (hv : PE X value tv) (hs : swapsWith value (some (.Attribute o "at" pos')) pos.line X.env = pure false := by rfl) : PS X (.Assign [.Attribute o "at" pos'] value pos) (sSetAt C ta tv) := by
  intro pins s σ H D I h
  refine plainObj_wpAny_Assign_Attribute (thn (hv pins s σ H _ I h) fun u s1 ⟨y, H1, I1, ry, q⟩ => thn (ha pins s1 σ H1 _ I1 q) fun ov s2 ⟨x, H2, I2, rx, e, ex, hx, q2⟩ => ?_) hs
  subst ex
  obtain rfl : ov = Value.ref e := rx
  exact xset_ok I2 O hx ry fun dx s3 n1 n2 J => ⟨σ, _, J, q2 dx n1 n2⟩
end
def spXI (C : Addr) : Sp := fun vs H Q _ => ∃ e v, vs = [.ref e, v] ∧ H e = some (xN e C none) ∧ ∀ dx, H dx = none → dx ≠ e → Q .non (upd (upd H dx (.xd [("at", v)])) e (xN e C (some dx)))
structure XMk (P : Program) (w : World) (K : PySem.W.Frag) (mg : Str → Option Value) (base : Heap) (k : Nat) (x : Str) (C : Addr) : Prop where
  ex : ∃ (CB fI : Addr) (fd : FuncData), FnB P w K mg base true k fI fd ["self", "at"] (spXI C) ∧ ExcI K C CB fI ∧ Binds K fd ["self", "at"] []
  mg : mg x = some (.ref C)
structure XFn (K : PySem.W.Frag) (mg : Str → Option Value) (x : Str) (C CB : Addr) (qual : Str) (st : Stmt) : Prop where
  ex : ∃ (f : Addr) (fd : FuncData), Fun K "__init__" qual st f fd ∧ ExcI K C CB f
  mg : mg x = some (.ref C)
theorem XFn.xmk {P : Program} {w : World} {K : PySem.W.Frag} {mg : Str → Option Value} {base : Heap} {x : Str} {C CB : Addr} {qual : Str} {st : Stmt} {N : List Str} {k : Nat} (T : XFn K mg x C CB qual st) (S : FnScope N ["self", "at"] (defScope st))
    (hb : ∀ (kV doc pm : Value) (an : Option Addr) (cdv ct : Value) (us : List Value), us.length = (["self", "at"] : List Str).length → bindArgs (PySem.W.fnOf "__init__" qual (defArgs st) (defBody st) (defScope st) .none kV doc pm an cdv ct) ⟨us, []⟩ = pure ((["self", "at"] : List Str).zip us))
    (hbody : ∀ (fI : Addr), ExcI K C CB fI → ∀ (f : Addr) (cdv : Value) (A : Around) (outer : List Env) (s : Shared) (H : Hp) (vs : List V) (Q : VK) (E : XK), RoomB true k (A.deeper (envOfC qual (defScope st) s.heap.objs.size f cdv)) → spXI C vs H Q E →
      ∃ t, PSs (cxB true P w K mg base N qual (defScope st) f cdv A outer s H E).nox (defBody st) t ∧ t { nx := fun _ H' => Q .non H', rt := Q } (start N vs) H) : XMk P w K mg base (k + 1) x C := by
  obtain ⟨f, fd, F, hm⟩ := T.ex
  obtain ⟨oc, od, kV, doc, pm, an, cdv, ct, osl, rfl, l, cd⟩ := id F.ex
  refine ⟨⟨CB, f, _, fnB_of l cd S (fun vs H Q E h => by obtain ⟨_, _, rfl, _⟩ := h; rfl) fun A outer s H vs Q E hr h => ?_, hm, F.binds hb⟩, T.mg⟩
  obtain ⟨t, h1, h2⟩ := hbody f hm f cdv A outer s H vs Q E hr h
  exact ⟨t, h1.nox, h2⟩
def delH (H : Hp) (e : Addr) : Hp := fun b => if b = e then none else H b
theorem delH_ne {H : Hp} {e b : Addr} (n : b ≠ e) : delH H e b = H b := if_neg n
theorem delH_same {H : Hp} {e : Addr} : delH H e e = none := if_pos rfl
section
variable {X : Cx} {C : Addr} {x : Str} {e₀ : Expr} {t : TA} {np cpos pos : Pos} {k : Nat}
theorem clo_del {E : XK} (Bd : BodyCx X E) {pins : List (Addr × Obj)} {σ : St} {H : Hp} {s : Shared} {e : Addr} {φ : Heap → Prop} (I : Inv X pins σ H s) (hx : H e = some (.ext φ)) (ne0 : X.s₀.heap.get? e = none) (nL : e ∉ frs X.stack) {h2 : Heap} (up : s.heap.UpToSlots h2) (h'' : Heap)
    (st : (PySem.W.hideAll s.heap (e :: frs X.stack)).StaysIn h'') (up2 : h2.UpToSlots h'') : Un (frs X.outer) [] X.H₀ (delH H e) X.s₀.heap h'' ∧ HOk X.prog X.w (delH H e) h'' := by
  have inB : ∀ b o, s.heap.get? b = some o → b ≠ e → b ∉ frs X.stack → h''.get? b = some o := fun b o q n m => st b o (PySem.W.hideAll_get _ q (by simp [n, m]))
  have sl : ∀ b o, s.heap.get? b = some o → b ∈ frs X.stack → ∃ sl, h''.get? b = some { o with slots := sl } := fun b o q m => by
    obtain ⟨_, o', ho', hnf⟩ := I.stack.mem m
    rw [q] at ho'; cases ho'
    exact (up.trans up2) b o q hnf
  have nx : ∀ b : Addr, b ∉ X.ex := fun b z => by rw [Bd.ex] at z; cases z
  have neL : ∀ b o, X.s₀.heap.get? b = some o → b ≠ X.env.locals := fun b o q => Nat.ne_of_lt (Nat.lt_of_lt_of_le (Heap.lt_size q) I.ok.above)
  have nee : ∀ b o, X.s₀.heap.get? b = some o → b ≠ e := fun b o q z => by rw [z, ne0] at q; cases q
  have any : ∀ b o, s.heap.get? b = some o → b ≠ e → ∃ o', h''.get? b = some o' := fun b o q n => by
    by_cases m : b ∈ frs X.stack
    · obtain ⟨z, y⟩ := sl b o q m
      exact ⟨_, y⟩
    · exact ⟨_, inB b o q n m⟩
  have nt : ∀ b o', H b = some o' → (∀ ψ, o' ≠ .ext ψ) → b ≠ e := fun b o' q n z => by rw [z, hx] at q; exact n φ (Option.some.inj q).symm
  refine ⟨⟨fun b o q n hb _ => ?_, fun b o q n hb _ => ?_, fun b o q n _ => ?_, fun b o q _ => ?_, fun b xs q => ?_, fun b o y q => ?_, fun b ps q => ?_⟩, fun a o q => ?_⟩
  · exact inB b o (I.base.keep b o q n hb (nx b)) (nee b o q) fun m => (mem_stack Bd).mp m |>.elim (neL b o q) hb
  · obtain ⟨z, y⟩ := I.base.slot b o q n hb (nx b)
    exact sl b _ y ((mem_stack Bd).mpr (.inr hb)) |>.imp fun _ h => h
  · rw [delH_ne (nee b o q)]; exact I.base.free b o q n (nx b)
  · obtain ⟨o', y⟩ := I.base.there b o q (nx b)
    exact any b o' y (nee b o q)
  · have y := I.base.tups b xs q
    rw [delH_ne (nt b _ y (fun _ h => nomatch h))]; exact y
  · have y := I.base.frzs b o _ q
    rw [delH_ne (nt b _ y (fun _ h => nomatch h))]; exact y
  · obtain ⟨m, y⟩ := I.base.tbls b ps q
    exact ⟨m, by rw [delH_ne (nt b _ y (fun _ h => nomatch h))]; exact y⟩
  · have hae : a ≠ e := fun z => by rw [z, delH_same] at q; cases q
    rw [delH_ne hae] at q
    refine (I.hok a o q).stay (fun b u hc y => inB b u y ?_ fun m => ?_) (fun b y => by rw [delH_ne (nt b _ y (fun _ h => nomatch h))]; exact y) fun b xs y => by rw [delH_ne (nt b _ y (fun _ h => nomatch h))]; exact y
    · rcases hc with z | z
      · rw [z]; exact hae
      · exact nt b _ z (fun _ h => nomatch h)
    · have z := I.stkFree b m
      rcases hc with rfl | hc
      · rw [z] at q; cases q
      · rw [z] at hc; cases hc
def tRaiseI (E : XK) (C : Addr) (t : TA) : TS := fun _ σ H => t σ H fun vs H1 => ∃ v, vs = [v] ∧ ∀ dx, H1 dx = none → E (.ref C) (some dx) (upd H1 dx (.xd [("at", v)]))
theorem ps_raiseI {E : XK} (Bd : BodyCx X E) (hc : X.calm = true) (M : XMk X.prog X.w X.K X.mg X.base k x C) (hr : RoomB true (k + 1) X.A) (ha : PA X [e₀] t) (hg : Gl X x := by rfl) (hdb : (x == ("__debug__" : Str)) = false := by decide)
    (he : starEach [e₀] X.env = [(false, eval e₀ X.env)] := by rfl) :
    PS X (.Raise (some (.Call (.Name x np) [e₀] [] cpos)) none pos) (tRaiseI E C t) := by
  obtain ⟨CB, fI, fd, Fi, O, hb⟩ := M.ex
  intro pins s σ H D I h
  rw [arm_exec_Raise]
  have key : wpAny (model X.prog X.w) X.A (eval (.Call (.Name x np) [e₀] [] cpos) X.env) (fun v s₁ => ∃ e t od sl, v = .ref e ∧ X.K.In s₁.heap ∧ ExcI X.K C CB fI ∧ s₁.heap.get? e = some ⟨.ref C, od, .fields #[.ref t, .none, .none, .none, .bool false, .none], sl⟩ ∧ X.xe (.ref e) s₁) X.xe s := by
    refine wpAny_Call_Name_kw (ld_glob I hg M.mg ?_ hdb)
    refine PySem.W.callWith_K (h₀ := X.base) I.ok.mod.kin O.kp (thn (ha cpos pins s σ H _ I h) fun us s1 ⟨vs, H1, I1, r, v, ev, q⟩ => ⟨I1.kIn, ?_⟩) he rfl
    subst ev
    obtain ⟨u, rfl, ru⟩ := vals1 r
    have new0' := new0 I1 (fun b z => by rw [Bd.ex] at z; cases z) (a := s1.heap.objs.size + 1) (Heap.get?_none_of_le (Nat.le_succ _))
    obtain ⟨hh, g, dr, tk, os⟩ := s1
    refine call_excI I1.kIn O ?_ (by show 1 ≤ sizeLine; decide)
    have hx0 : ((hh.push (tupO [u])).push (excN C hh.objs.size)).get? (hh.objs.size + 1) = some (excB C hh.objs.size none #[]) := by heap_get
    have J0 := I1.kept (h' := hh.push (tupO [u])) (t' := tk) (fun b o z => Heap.get?_push_of_some _ z)
    have J : Inv X pins σ (upd H1 (hh.objs.size + 1) (xN (hh.objs.size + 1) C none)) ⟨(hh.push (tupO [u])).push (excN C hh.objs.size), g, dr, tk, os⟩ :=
      J0.laid (a := hh.objs.size + 1) (o := xN (hh.objs.size + 1) C none) (t' := tk) (fun b o z => Heap.get?_push_of_some _ z) (Nat.le_of_eq (Heap.size_push _ _)) (XN.ok ⟨_, _, hx0⟩)
    have he1 : H1 (hh.objs.size + 1) = none := I1.hok.fresh (Nat.le_succ _)
    have r2 : Vals [V.ref (hh.objs.size + 1), v] [Value.ref (hh.objs.size + 1), u] := .cons rfl (.cons ru .nil)
    have hl : ([Value.ref (hh.objs.size + 1), u] ++ ([] : List Value)).length = ["self", "at"].length := rfl
    refine wpAny_call (codeAny_mono (Fi.run _ X.stack _ _ ⟨[.ref (hh.objs.size + 1), u], []⟩ [.ref (hh.objs.size + 1), u] [.ref (hh.objs.size + 1), v]
      (fun v' H2 => v' = .non ∧ ∃ dx, H1 dx = none ∧ dx ≠ hh.objs.size + 1 ∧ H2 = upd (upd (upd H1 (hh.objs.size + 1) (xN (hh.objs.size + 1) C none)) dx (.xd [("at", v)])) (hh.objs.size + 1) (xN (hh.objs.size + 1) C (some dx))) E0 (hr.room.make C [u] []).b (J.env0.make C [u] []) (hb _ [.ref (hh.objs.size + 1), u] J.kIn hl) r2
      ⟨_, _, rfl, upd_same, fun dx n1 n2 => ⟨rfl, dx, by rw [upd_ne n2] at n1; exact n1, n2, rfl⟩⟩) fun r s' hq' => ?_)
    cases r with
    | error e =>
      obtain ⟨_, _, _, _, _, _, _, _, _, _, _, _, z⟩ := hq'
      exact z.elim
    | ok fl =>
      cases fl with
      | next => exact False.elim hq'
      | brk => exact False.elim hq'
      | cont => exact False.elim hq'
      | ret u' =>
        obtain ⟨v', H2, I2, rv, ev, dx, n1, n2, eH⟩ := J.after hq'
        subst ev
        refine ⟨rv, ?_⟩
        have hx2 : H2 (hh.objs.size + 1) = some (xN (hh.objs.size + 1) C (some dx)) := by rw [eH]; exact upd_same
        obtain ⟨⟨t1, sl1, ho1⟩, _, _⟩ := (show ObjOk X.prog X.w H2 s'.heap (hh.objs.size + 1) (xN (hh.objs.size + 1) C (some dx)) from I2.hok _ _ hx2)
        refine ⟨hh.objs.size + 1, t1, some dx, sl1, rfl, I2.kIn, O, ho1, ?_⟩
        have eD : delH H2 (hh.objs.size + 1) = upd H1 dx (.xd [("at", v)]) := by
          funext b
          by_cases z : b = hh.objs.size + 1
          · subst z; rw [delH_same, upd_ne (Ne.symm n2)]; exact he1.symm
          · rw [delH_ne z, eH, upd_ne z]
            by_cases z2 : b = dx
            · subst z2; rw [upd_same, upd_same]
            · rw [upd_ne z2, upd_ne z2, upd_ne z]
        have qE : E (.ref C) (some dx) (delH H2 (hh.objs.size + 1)) := by rw [eD]; exact q dx n1
        rw [Bd.xe]
        have hfr : X.A.frames = some (X.env :: X.outer) := by rw [← Bd.stk]; exact I.ok.frames
        have nS : hh.objs.size + 1 ∉ frs X.stack := fun m => by
          have := I2.stkFree _ m
          rw [hx2] at this; cases this
        have hin : ∀ env ∈ X.stack, ∀ b, env.frame = some b → b ∈ ((hh.objs.size + 1) :: frs X.stack) := fun env he b hb => List.mem_cons_of_mem _ (List.mem_filterMap.mpr ⟨env, he, hb⟩)
        have ff : s'.heap.FunFrames (PySem.W.hideAll s'.heap ((hh.objs.size + 1) :: frs X.stack)) (X.env :: X.outer) := by
          have z := PySem.W.funFrames_hide I2.stack hin
          rw [← Bd.stk]
          exact z
        refine leave_first (s := s') hfr Bd.fr (fun b o q => PySem.W.of_hideAll _ q) (PySem.W.hideAll_none _ (List.mem_cons_self ..)) ff ho1 rfl rfl ⟨_, rfl, .none⟩ fun h3 fly up => ?_
        exact ⟨_, C, some dx, delH H2 (hh.objs.size + 1), _, rfl, I2.os, I2.bare, fun h'' st up2 => clo_del Bd I2 hx2 new0' nS up h'' st up2, fly, delH_same, new0', qE⟩
  first
    | refine wpAny_bind (wpAny_standAt (raise_obj (K := X.K) (C := C) (CB := CB) (fI := fI) (I.ok.hd hc) (wpAny_bind (wpAny_mono key (fun v s₃ h₃ => wpAny_bind (wpAny_standAt (wpAny_pure h₃))) fun _ _ x => x))))
    | (simp only [evalOpt, Option.map]; refine wpAny_bind (wpAny_standAt (raise_obj (K := X.K) (C := C) (CB := CB) (fI := fI) (I.ok.hd hc) (wpAny_bind (wpAny_mono key (fun v s₃ h₃ => wpAny_bind (wpAny_standAt (wpAny_pure h₃))) fun _ _ x => x)))))
end
end L2
namespace L2
open PySem PySem.Spec PySem.Calls PyProof.Rows PySem.W Builtin Builtin.ObjectAttr
section
variable {prog : Program} {w : World} {A : Around} {E : Value → Shared → Prop} {s : Shared} {K : PySem.W.Frag} {x C : Addr} {ox od : Obj} {f : Str} {v : Value}
theorem xfld_entry {Q : Fin → Shared → Prop} {tk : Tok} (X : K.In s.heap) (I : InstAt s.heap x ox C (some od)) (hf : findObj K C (some od) f = some (.value v)) (hh : handedIn v = true) (hq : Q (.done (.ret v)) s) :
    wpAny (model prog w) A (Builtin.«object.__getattribute__» ⟨[.ref x, .str f tk], []⟩) Q E s := by
  obtain ⟨hp, g, d, t, os⟩ := s
  have y0 := I.type (M := model prog w)
  have y2 := looks_find (M := model prog w) X I hf
  unfold Builtin.«object.__getattribute__»
  repeat (any_goals (first | assumption | (with_reducible refine y0.at ?_) | (with_reducible refine y2.at ?_) | wp_step))
theorem xfld_get {expr : Bool} {Q : Value → Shared → Prop} (X : K.In s.heap) (F : ExcK K C) (I : InstAt s.heap x ox C (some od)) (hf : findObj K C (some od) f = some (.value v)) (hh : handedIn v = true) (h : Q v { s with toks := s.toks + 1 }) :
    wpAny (model prog w) A (getAttr (.ref x) f expr) Q E s := by
  obtain ⟨hp, g, d, t, os⟩ := s
  have y0 := I.type (M := model prog w)
  have y1 := looks_findIn (M := model prog w) X F.ga
  have y3 := looks_findIn (M := model prog w) X F.gt
  have f3 := PySem.F.excAttr_ValueError.ga.bind (.ref x)
  have ex : ExcAt x C hp := ⟨ox, I.at_, I.cls⟩
  have hx1 : (onTheHeap (Value.ref C) && Value.builtin "BaseException.__getattribute__" == Value.builtin "object.__getattribute__") = false := by
    rw [show (Value.builtin "BaseException.__getattribute__" == Value.builtin "object.__getattribute__") = false by decide +kernel]; rfl
  unfold getAttr getAttrBy
  refine wpAny_bind (wpAny_mkText (wpAny_holding (wpAny_bind (y0.at (wpAny_bind (y1.at ?_))))))
  dsimp only
  rw [hx1]
  rw [if_neg Bool.false_ne_true]
  unfold getAttrByItsOwn hookBefore
  repeat (any_goals (first | assumption | wp_step | lk))
  have hx2 : (expr && onTheHeap (Value.builtin "BaseException.__getattribute__")) = false := Bool.and_false _
  rw [hx2, if_neg Bool.false_ne_true]
  unfold boundAndCalled
  repeat (any_goals (first | assumption | wp_step | lk))
  refine codeAny_call_builtin PySem.F.excAttr_ValueError.ga.plain PySem.F.entry_bexc_ga (exc_check (s := ⟨hp, g, d, t + 1, os⟩) X ex F (xfld_entry (s := ⟨hp, g, d, t + 1, os⟩) X I hf hh ?_))
  show wpAny _ _ (handedOut v) _ _ _
  rw [handedOut_of hh]
  exact wpAny_pure h
end
end L2
namespace L2
open PySem PySem.Spec PySem.Calls PyProof.Rows PySem.W
end L2
namespace Lib
open PySem L2 Fr Op
def noB (d : PyData) : Prop := isLstD d = false ∨ ∃ ds, d = .list ds ∧ 60 < ds.length
def badAt (ds : List PyData) (i : Nat) : Prop := ds.length ≤ 60 ∧ (∀ d ∈ ds, SmP d) ∧ (∀ j, j < i → ∀ d, ds[j]? = some d → pieceD d = true) ∧ ∃ d, ds[i]? = some d ∧ pieceD d = false
def RefB (d : PyData) (o : Option Nat) : Prop := (noB d ∧ o = none) ∨ ∃ (ds : List PyData) (i : Nat), d = .list ds ∧ badAt ds i ∧ o = some i
def atV : Option Nat → V
  | none => .non
  | some i => .int (i : Int)
theorem dv_at {K : PySem.W.Frag} {H : Hp} : ∀ o : Option Nat, DV K H (atV o) (optD o)
  | none => .non
  | some i => .int _
def RaisedAt (H : Hp) (C : Addr) (o : Option Nat) (E : XK) : Prop := ∀ H' dx, Same H H' → H' dx = some (.xd [("at", atV o)]) → E (.ref C) (some dx) H'
def spLookN (K : PySem.W.Frag) (C : Addr) : Sp := fun vs H _ E => ∃ v d o, vs = [v] ∧ DV K H v d ∧ RefB d o ∧ RaisedAt H C o E
def smE : PyData → Bool
  | .tuple [.int a, .int b] => decide (a.natAbs < 1000) && decide (b.natAbs < 1000)
  | _ => true
def smT : PyData → Bool
  | .tuple ds => decide (ds.length ≤ 1000) && ds.all smE
  | _ => true
theorem smP_b {d : PyData} (h : smT d = true) : SmP d := by
  intro ds e
  subst e
  have h : (decide (ds.length ≤ 1000) && ds.all smE) = true := h
  rw [Bool.and_eq_true] at h
  refine ⟨of_decide_eq_true h.1, fun q hq => ?_⟩
  have z : (decide (q.num.natAbs < 1000) && decide (((q.den : Nat) : Int).natAbs < 1000)) = true := List.all_eq_true.mp h.2 _ hq
  rw [Bool.and_eq_true] at z
  have z1 : q.num.natAbs < 1000 := of_decide_eq_true z.1
  have z2 : ((q.den : Nat) : Int).natAbs < 1000 := of_decide_eq_true z.2
  rw [Int.natAbs_natCast] at z2
  have b : Bd 10 q := ⟨by omega, by omega⟩
  exact b.sm (by decide)
def OddB (d : PyData) : Prop := pieceD d = false ∧ SmP d
theorem badAt_mid {m i : Nat} {ps : List Pc} {d : PyData} {ds : List PyData} (hm : m ≤ 4000) (g : Good m ps) (hi : i ≤ ps.length) (o : OddB d) (ho : ∀ e ∈ ds, SmP e) (hl : ps.length + 1 + ds.length ≤ 60) :
    badAt ((ps.take i).map pcD ++ d :: (ps.drop i).map pcD ++ ds) i := by
  have lt : ((ps.take i).map pcD).length = i := by rw [List.length_map, List.length_take]; omega
  refine ⟨?_, fun e he => ?_, fun j hj e he => ?_, d, ?_, o.1⟩
  · simp only [List.length_append, List.length_cons, List.length_map, List.length_take, List.length_drop]
    omega
  · rw [List.append_assoc] at he
    rcases List.mem_append.mp he with h | h
    · obtain ⟨p, hp, rfl⟩ := List.mem_map.mp h
      exact smP_pc hm (g.bd _ (List.mem_of_mem_take hp))
    · rcases List.mem_cons.mp h with rfl | h
      · exact o.2
      · rcases List.mem_append.mp h with h | h
        · obtain ⟨p, hp, rfl⟩ := List.mem_map.mp h
          exact smP_pc hm (g.bd _ (List.mem_of_mem_drop hp))
        · exact ho e h
  · rw [List.append_assoc, List.getElem?_append_left (by omega), List.getElem?_map] at he
    obtain ⟨p, hp, rfl⟩ := Option.map_eq_some_iff.mp he
    exact pieceD_pc (g.ok _ (List.mem_of_mem_take (List.mem_of_getElem? hp)))
  · rw [List.append_assoc, List.getElem?_append_right (by omega), lt, Nat.sub_self]
    rfl
theorem dvs_repl {K : PySem.W.Frag} {H : Hp} {v : V} {d : PyData} (h : DV K H v d) : ∀ n, DVs K H (List.replicate n v) (List.replicate n d)
  | 0 => .nil
  | n + 1 => by rw [List.replicate_succ, List.replicate_succ]; exact .cons h (dvs_repl h n)
theorem rep_flat1 (n : Nat) (x : V) : (List.replicate n [x]).flatten = List.replicate n x := by
  induction n with
  | zero => rfl
  | succ n ih => rw [List.replicate_succ, List.flatten_cons, ih, List.replicate_succ]; rfl
end Lib
namespace Lib
open PySem L2 Fr Op
end Lib
namespace L2
open PySem PySem.Spec PyProof.Rows
end L2
namespace L2
open PySem PySem.Spec PyProof.Rows PySem.Builtin PySem.Builtin.Str
end L2
namespace Lib
open PySem L2 Fr Op
end Lib
namespace L2
open PySem PySem.Spec PyProof.Rows PySem.Builtin PySem.SeqAt
end L2
namespace Op
open Fr
end Op
namespace Lib
open PySem L2 Fr Op
end Lib
namespace Op
open Fr
end Op
namespace Op
open Fr
end Op
namespace Op
open Fr
end Op
namespace Op
open Fr
end Op
namespace Op
open Fr
end Op
namespace Op
open Fr
end Op
namespace Op
open Fr
end Op
namespace Op
open Fr
end Op
namespace Op
open Fr
end Op
namespace Op
open Fr
theorem num_den (q : Rat) : (q.den : Rat) * q = (q.num : Rat) := by
  have h : q = (q.num : Rat) / (q.den : Rat) := by rw [← Rat.intCast_natCast, ← Rat.divInt_eq_div]; exact (Rat.num_divInt_den q).symm
  have d : (q.den : Rat) ≠ 0 := fun z => q.den_nz (by exact_mod_cast z)
  generalize (q.num : Rat) = a at *
  generalize (q.den : Rat) = b at *
  grind
end Op
namespace Lib
open PySem L2 Fr Op
def _root_.Op.Pc.fd (m M : Nat) : Pc → Prop
  | .gap d => Bd m d
  | .glass d => Bd m d
  | .stop lo hi => Bd M lo ∧ Bd M hi
end Lib
namespace Lib
open PySem L2 Fr Op
end Lib
namespace L2
open PySem PySem.Spec PyProof.Rows PySem.Builtin
end L2
namespace Lib
open PySem L2 Fr Op
end Lib
namespace L2
open PySem PySem.Spec PyProof.Rows PySem.Builtin
end L2
namespace Op
open Fr
end Op
namespace Lib
open PySem L2 Fr Op
end Lib
namespace Op
open Fr
end Op
namespace L2
open PySem PySem.Spec PyProof.Rows PySem.Builtin
end L2
namespace Lib
open PySem L2 Fr Op
end Lib
namespace Op
open Fr
end Op
namespace Lib
open PySem L2 Fr Op
end Lib
namespace Lib
open PySem L2 Fr Op
end Lib
namespace Lib
open PySem L2 Fr Op
end Lib
namespace Lib
open PySem L2 Fr Op
theorem limsF_pre : ∀ (ps : List Pc) (i : Nat) (h s : Ray) (l : Lim), l ∈ limsF i ps h s → ∃ (k : Nat) (lo hi : Rat), ps[k]? = some (.stop lo hi) ∧ l = ⟨i + k, (bend (ps.take k) h).1, (bend (ps.take k) s).1, lo, hi⟩
  | [], i, h, s, l, hl => nomatch hl
  | p :: ps, i, h, s, l, hl => by
    rcases List.mem_append.mp (show l ∈ lim1 i p h s ++ limsF (i + 1) ps (p.bent h) (p.bent s) from hl) with h1 | h1
    · cases p with
      | gap d => cases h1
      | glass d => cases h1
      | stop lo hi => exact ⟨0, lo, hi, rfl, List.mem_singleton.mp h1⟩
    · obtain ⟨k, lo, hi, e1, e2⟩ := limsF_pre ps (i + 1) (p.bent h) (p.bent s) l h1
      refine ⟨k + 1, lo, hi, e1, ?_⟩
      rw [e2, show i + 1 + k = i + (k + 1) by omega]
      rfl
theorem lims_pre {ps : List Pc} {l : Lim} (hl : l ∈ lims ps) : ∃ (k : Nat) (lo hi : Rat), ps[k]? = some (.stop lo hi) ∧ l = ⟨k, (tabOf (ps.take k)).a, (tabOf (ps.take k)).b, lo, hi⟩ := by
  obtain ⟨k, lo, hi, e1, e2⟩ := limsF_pre ps 0 Op.e1 Op.e2 l hl
  rw [Nat.zero_add] at e2
  exact ⟨k, lo, hi, e1, e2⟩
theorem tab_plain (ps : List Pc) : tabOf (plainOf ps) = tabOf ps := by
  unfold tabOf
  rw [bend_plain, bend_plain]
theorem tq_fd {m M : Nat} {ps : List Pc} (h : ∀ p ∈ ps, p.fd m M) : Tq (1 + ps.length * (m + 2)) (tabOf ps) := by
  rw [← tab_plain]
  have hb : ∀ p ∈ plainOf ps, p.bd m := fun p hp => by
    obtain ⟨h1, h2⟩ := List.mem_filter.mp hp
    have := h p h1
    cases p with
    | gap d => exact this
    | glass d => exact this
    | stop lo hi => cases h2
  exact (tq_tab hb).mono (Nat.add_le_add_left (Nat.mul_le_mul_right _ (List.length_filter_le _ _)) 1)
theorem div_scale {k x y : Rat} (hk : k ≠ 0) (hy : ¬ y = 0) : x / y = (k * x) / (k * y) := by grind
theorem quot_bd {a b lo h s : Rat} {n M m : Nat} {t : Tab} (ht : Tq n t) (ea : a = t.a) (eb : b = t.b) (bl : Bd M lo) (bh : Bd m h) (bs : Bd m s) (hr : ¬ a * s + b = 0) : Bd (n + M + 2 * m + 1) ((lo - a * h) / (a * s + b)) := by
  obtain ⟨N, A, B, C, D, n0, hN, hA, hB, hC, hD, e1, e2, e3, e4⟩ := ht.ex
  rw [← ea] at e1
  rw [← eb] at e2
  have rN := int_nz n0
  have nlo := num_den lo
  have nh := num_den h
  have ns := num_den s
  have dl : (lo.den : Rat) ≠ 0 := fun z => lo.den_nz (by exact_mod_cast z)
  have dh : (h.den : Rat) ≠ 0 := fun z => h.den_nz (by exact_mod_cast z)
  have ds : (s.den : Rat) ≠ 0 := fun z => s.den_nz (by exact_mod_cast z)
  -- the top and the bottom
  have eX : (((lo.num * N * (h.den : Int) - A * h.num * (lo.den : Int)) * (s.den : Int) : Int) : Rat) = (lo.den : Rat) * (N : Rat) * (h.den : Rat) * (s.den : Rat) * (lo - a * h) := by
    rw [Rat.intCast_mul, Rat.intCast_sub, Rat.intCast_mul, Rat.intCast_mul, Rat.intCast_mul, Rat.intCast_mul, Rat.intCast_natCast, Rat.intCast_natCast, Rat.intCast_natCast, ← e1, ← nlo, ← nh]
    grind
  have eY : (((lo.den : Int) * (h.den : Int) * (A * s.num + B * (s.den : Int)) : Int) : Rat) = (lo.den : Rat) * (N : Rat) * (h.den : Rat) * (s.den : Rat) * (a * s + b) := by
    rw [Rat.intCast_mul, Rat.intCast_mul, Rat.intCast_add, Rat.intCast_mul, Rat.intCast_mul, Rat.intCast_natCast, Rat.intCast_natCast, Rat.intCast_natCast, ← e1, ← e2, ← ns]
    grind
  generalize hX : (lo.num * N * (h.den : Int) - A * h.num * (lo.den : Int)) * (s.den : Int) = X at eX
  generalize hY : (lo.den : Int) * (h.den : Int) * (A * s.num + B * (s.den : Int)) = Y at eY
  have kz : (lo.den : Rat) * (N : Rat) * (h.den : Rat) * (s.den : Rat) ≠ 0 := by
    intro z
    rcases Rat.mul_eq_zero.mp z with z | z
    · rcases Rat.mul_eq_zero.mp z with z | z
      · rcases Rat.mul_eq_zero.mp z with z | z
        · exact dl z
        · exact rN z
      · exact dh z
    · exact ds z
  have y0 : Y ≠ 0 := fun z => by
    rw [z] at eY
    have eY : (0 : Rat) = (lo.den : Rat) * (N : Rat) * (h.den : Rat) * (s.den : Rat) * (a * s + b) := eY
    rcases Rat.mul_eq_zero.mp eY.symm with z | z
    · exact kz z
    · exact hr z
  have eq : (lo - a * h) / (a * s + b) = Rat.divInt X Y := by
    rw [Rat.divInt_eq_div, eX, eY]
    exact div_scale kz hr
  rw [eq]
  have ab1 : (A * s.num).natAbs < 2 ^ (n + m) := abs_mul hA bs.n
  have ab2 : (B * (s.den : Int)).natAbs < 2 ^ (n + m) := abs_mul hB bs.dn
  have lb1 : (lo.num * N * (h.den : Int)).natAbs < 2 ^ (M + n + m) := abs_mul (abs_mul bl.n hN) bh.dn
  have lb2 : (A * h.num * (lo.den : Int)).natAbs < 2 ^ (M + n + m) := Nat.lt_of_lt_of_le (abs_mul (abs_mul hA bh.n) bl.dn) (pow_le (by omega))
  have hXb : X.natAbs < 2 ^ (n + M + 2 * m + 1) := by
    rw [← hX]
    refine Nat.lt_of_lt_of_le (abs_mul (m := M + n + m + 1) (n := m) ?_ bs.dn) (pow_le (by omega))
    rw [Nat.pow_succ]
    omega
  have hYb : Y.natAbs < 2 ^ (n + M + 2 * m + 1) := by
    rw [← hY]
    refine Nat.lt_of_lt_of_le (abs_mul (m := M + m) (n := n + m + 1) (abs_mul bl.dn bh.dn) ?_) (pow_le (by omega))
    rw [Nat.pow_succ]
    omega
  exact Bd.of y0 hXb hYb
theorem quots_fd {m M c : Nat} {ps : List Pc} {h s : Rat} (fd : ∀ p ∈ ps, p.fd m M) (bh : Bd c h) (bs : Bd c s) : ∀ q ∈ quots (lims ps) h s, Bd (1 + (ps.length - 1) * (m + 2) + M + 2 * c + 1) q := fun q hq => by
  obtain ⟨l, hl, hq⟩ := List.mem_flatMap.mp hq
  obtain ⟨k, lo, hi, hk, e⟩ := lims_pre hl
  have kl := lt_of_get hk
  have fk := fd _ (List.mem_of_getElem? hk)
  have tq : Tq (1 + (ps.length - 1) * (m + 2)) (tabOf (ps.take k)) := (tq_fd (m := m) (M := M) fun p hp => fd p (List.mem_of_mem_take hp)).mono (by
    rw [List.length_take]
    exact Nat.add_le_add_left (Nat.mul_le_mul_right _ (by omega)) 1)
  split at hq
  · cases hq
  · rename_i hr
    subst e
    simp only [List.mem_cons, List.not_mem_nil, or_false] at hq
    rcases hq with rfl | rfl
    · exact quot_bd tq rfl rfl fk.1 bh bs hr
    · exact quot_bd tq rfl rfl fk.2 bh bs hr
end Lib
namespace Lib
open PySem L2 Fr Op
end Lib
namespace Lib
open PySem L2 Fr Op
def Zs (ls : List (Rat × Rat)) : Prop := ∀ z ∈ ls, Bd 12 z.1 ∧ Bd 12 z.2
theorem fd_of_bd {m : Nat} : ∀ {p : Pc}, p.bd m → p.fd m m
  | .gap _, h => h
  | .glass _, h => h
  | .stop _ _, h => h
def prD (z : Rat × Rat) : PyData := pairD z.1 z.2
end Lib
namespace Lib
open PySem L2 Fr Op
inductive StrB : PyData → PyData → Bool → Prop
  | yes {p q : Rat} : Sm p → Sm q → p ≤ q → StrB (frD p) (frD q) true
  | turned {p q : Rat} : Sm p → Sm q → q < p → StrB (frD p) (frD q) false
  | one {d e : PyData} : ratD d = false → StrB d e false
  | two {p : Rat} {e : PyData} : ratD e = false → StrB (frD p) e false
def spStrX (K : PySem.W.Frag) : Sp := fun vs H Q _ => ∃ (x y : V) (d e : PyData) (b : Bool), vs = [x, y] ∧ DV K H x d ∧ DV K H y e ∧ StrB d e b ∧ ∀ H', Same H H' → Q (.bl b) H'
theorem rat_fr (q : Rat) : ratD (frD q) = true := by
  have h := ratD_fr q
  exact h
end Lib
namespace L2
open PySem PySem.Spec PyProof.Rows PySem.Builtin
def Hn (h : Heap) (a : Addr) : Prop := ∃ o vs, h.get? a = some o ∧ o.data = .fields vs ∧ vs[2]? = some .none
theorem ent_unchain : entryFor table "proto.unchain" = some Builtin.«proto.unchain» := entryFor_of_fast (by kernel_rfl)
section
variable {prog : Program} {w : World} {A : Around} {E : Value → Shared → Prop} {s : Shared}
theorem code_blt {A : Around} {R : Result → Shared → Prop} {s : Shared} {id : String} {args : Args} {b : Builtin} (hb : entryFor table id = some b)
    (h : wpAny (model prog w) (A.under (.builtin id args)) (b args) (fun fin s' => match fin with | .done f => R (.ok f) s' | .again c' => c'.quiet = true ∧ codeAny (model prog w) A c' R s') (fun e s' => R (.error e) s') s) : codeAny (model prog w) A (.builtin id args) R s := by
  refine codeAny_of_tree ?_
  show wpAny _ _ (match entryFor table id with | some b => b args | none => unsupported ((withoutEnding? id "#data").getD id)) _ _ s
  rw [hb]; exact h
theorem unchain_n {A : Around} {R : Result → Shared → Prop} {s : Shared} {b e : Addr} {slow : Value} {tg : Bool} (hn : Hn s.heap b) (q : R (.ok (.ret .none)) s) :
    codeAny (model prog w) A (.builtin "proto.unchain" ⟨[.ref e, .ref b, slow, .bool tg], []⟩) R s := by
  obtain ⟨o, vs, he, hd, ht⟩ := hn
  refine code_blt ent_unchain ?_
  show wpAny _ _ (do
    let context ← field (.ref b) 2
    if context == .none then return ← ret .none
    if context == .ref e then
      rule "raise.context-cycle-cut"
      setField (.ref b) 2 .none
      return ← ret .none
    if context == slow then rule "raise.context-old-cycle"; return ← ret .none
    let slow ← if tg then field slow 2 else pure slow
    again (.builtin "proto.unchain" ⟨[.ref e, context, slow, .bool !tg], []⟩)) _ _ s
  refine wpAny_bind (wpAny_field he hd ht ?_)
  rw [if_pos (show (Value.none == Value.none) = true from rfl)]
  exact wpAny_pure q
theorem raiseNew_h {α : Type} {Q : α → Shared → Prop} {e a : Addr} {o : Obj} {vs : Array Value} (hh : A.handled = some (.ref a)) (he : s.heap.get? e = some o) (hd : o.data = .fields vs) (h2 : 2 < vs.size) (ch : Hn s.heap a) (nae : a ≠ e)
    (hE : E (.ref e) { s with heap := s.heap.update e (Obj.mapFields fun x => x.setIfInBounds 2 (.ref a)) }) : wpAny (model prog w) A (raiseNew (.ref e)) Q E s := by
  unfold raiseNew
  refine wpAny_bind (wpAny_handled ?_)
  rw [hh]
  have n1 : (Value.ref a != Value.ref e) = true := by simpa using nae
  show wpAny _ _ (do
    if (Value.ref a != Value.ref e) = true then
      let _ ← holding [Value.ref e] (runValue (.builtin "proto.unchain" ⟨[.ref e, .ref a, .ref a, .bool false], []⟩))
      updateField e 2 (.ref a)
    throw (.ref e)) _ _ _
  rw [if_pos n1]
  refine wpAny_bind (wpAny_holding (wpAny_runValue (unchain_n ch ?_)))
  have key : wpAny (model prog w) A (setField (.ref e) 2 (.ref a)) (fun _ s' => wpAny (model prog w) A (throw (Value.ref e)) Q E s') E s := wpAny_setField he hd h2 (wpAny_throw hE)
  exact wpAny_bind key
theorem size_none (h : Heap) : h.get? h.objs.size = none := by
  cases e : h.get? h.objs.size with
  | none => rfl
  | some o => exact absurd (Heap.lt_size e) (Nat.lt_irrefl _)
theorem stop_h {α : Type} {Q : α → Shared → Prop} {a : Addr} (hh : A.handled = some (.ref a)) (cn : Hn s.heap a)
    (hE : ∀ h' e, (∀ b o, s.heap.get? b = some o → h'.get? b = some o) → (∃ o, h'.get? e = some o ∧ o.cls = .type "StopIteration") → E (.ref e) { s with heap := h' }) :
    wpAny (model prog w) A (Builtin.SmallTypes.stopIteration : Sem α) Q E s := by
  unfold Builtin.SmallTypes.stopIteration newExc
  refine wpAny_bind (wpAny_bind (wpAny_newObj_type ?_))
  refine wpAny_bind (wpAny_of_eq (Eq.refl (firstArgMember (.type "StopIteration") [])) ?_)
  refine wpAny_newObj_type ?_ (sizeOk_excFields _ _ _ _ _ _ _ _)
  refine raiseNew_h hh (Heap.get?_push_size _ rfl) rfl (by rw [Array.size_append]; exact Nat.lt_of_lt_of_le (show 2 < 6 by decide) (Nat.le_add_right 6 _)) (by obtain ⟨o, vs, h1, h2, h3⟩ := cn; exact ⟨o, vs, Heap.get?_push_of_some _ (Heap.get?_push_of_some _ h1), h2, h3⟩) ?_ ?_
  · intro z
    obtain ⟨o, vs, h1, _⟩ := cn
    have h2 := Heap.lt_size (Heap.get?_push_of_some { cls := Value.type "tuple", data := Data.seq #[] } h1)
    rw [z] at h2
    exact absurd h2 (Nat.lt_irrefl _)
  · refine hE _ _ (fun b o e => ?_) ⟨_, Heap.get?_update_self (Obj.mapFields fun x => x.setIfInBounds 2 (Value.ref a)) (Heap.get?_push_size _ rfl) rfl, rfl⟩
    have nb : b ≠ (s.heap.push { cls := Value.type "tuple", data := Data.seq #[] }).objs.size := fun z => by
      have h2 := Heap.get?_push_of_some { cls := Value.type "tuple", data := Data.seq #[] } e
      rw [z, size_none] at h2
      cases h2
    exact (Heap.get?_update_other _ _ (Ne.symm nb)).trans (Heap.get?_push_of_some _ (Heap.get?_push_of_some _ e))
theorem nextOf_lst_item {it l : Addr} {i : Nat} {items : Array Value} {x : Value} {Q : Value → Shared → Prop}
    (hit : s.heap.IsListIter it l i) (hl : s.heap.IsList l items) (hx : items[i]? = some x) (hQ : ∀ h', h'.IsListIter it l (i + 1) → Heap.SameBut it s.heap h' → Q x { s with heap := h' }) :
    wpAny (model prog w) A (Builtin.SmallTypes.nextOf (.ref it)) Q E s := by
  obtain ⟨ob, hob, hcl, hda⟩ := id hit
  obtain ⟨ol, hol, _, nl, hdl⟩ := hl
  unfold Builtin.SmallTypes.nextOf
  refine wpAny_bind (wpAny_callSpecial?_slot hit.typeIs slot_listiter_next (wpAny_call_entry slot_listiter_next hit.typeIs entry_listiter_next ?_ (args_listiter_next (.ref it))))
  show wpAny (model prog w) A.in1 (field (.ref it) 0 >>= _) _ _ s
  refine wpAny_bind (wpAny_field hob hda rfl ?_)
  dsimp only
  rw [if_neg (by exact Bool.false_ne_true)]
  refine wpAny_bind (wpAny_field hob hda rfl ?_)
  refine wpAny_bind (wpAny_seqItems hol hdl ?_)
  simp only [Int.toNat_natCast, hx]
  refine wpAny_bind (wpAny_setField (i := 1) hob hda ?_ ?_)
  · show 1 < 2
    decide
  refine wpAny_pure ⟨x, rfl, ?_⟩
  have hd2 := Obj.data_mapFields hda fun x : Array Value => x.setIfInBounds 1 (rawInt ((i : Int) + 1))
  have hc2 := (Obj.cls_mapFields ob fun x : Array Value => x.setIfInBounds 1 (rawInt ((i : Int) + 1))).trans hcl
  have hg2 := Heap.get?_update_self (Obj.mapFields fun x : Array Value => x.setIfInBounds 1 (rawInt ((i : Int) + 1))) hob (Obj.isFreed_of_fields hd2)
  have hs2 := Heap.SameBut.update s.heap it (Obj.mapFields fun x : Array Value => x.setIfInBounds 1 (rawInt ((i : Int) + 1)))
  have e : (#[Value.ref l, Value.int (i : Int) 0] : Array Value).setIfInBounds 1 (rawInt ((i : Int) + 1)) = #[Value.ref l, Value.int ((i + 1 : Nat) : Int) 0] := by
    simp [rawInt]
  rw [e] at hd2
  exact wpAny_pure (hQ _ ⟨_, hg2, hc2, hd2⟩ hs2)
theorem nextOf_lst_end_h {it l a : Addr} {i : Nat} {items : Array Value} {Q : Value → Shared → Prop} (hh : A.handled = some (.ref a)) (cn : ∀ h', Heap.ExtBut it s.heap h' → Hn h' a)
    (hit : s.heap.IsListIter it l i) (hl : s.heap.IsList l items) (hx : items[i]? = none) (hE : ∀ h' e, Heap.ExtBut it s.heap h' → (∃ o, h'.get? e = some o ∧ o.cls = .type "StopIteration") → E (.ref e) { s with heap := h' }) :
    wpAny (model prog w) A (Builtin.SmallTypes.nextOf (.ref it)) Q E s := by
  obtain ⟨ob, hob, hcl, hda⟩ := id hit
  obtain ⟨ol, hol, _, nl, hdl⟩ := hl
  unfold Builtin.SmallTypes.nextOf
  refine wpAny_bind (wpAny_callSpecial?_slot hit.typeIs slot_listiter_next (wpAny_call_entry slot_listiter_next hit.typeIs entry_listiter_next ?_ (args_listiter_next (.ref it))))
  show wpAny (model prog w) A.in1 (field (.ref it) 0 >>= _) _ _ s
  refine wpAny_bind (wpAny_field hob hda rfl ?_)
  dsimp only
  rw [if_neg (by exact Bool.false_ne_true)]
  refine wpAny_bind (wpAny_field hob hda rfl ?_)
  refine wpAny_bind (wpAny_seqItems hol hdl ?_)
  simp only [Int.toNat_natCast, hx]
  refine wpAny_bind (wpAny_rule ?_)
  refine wpAny_bind (wpAny_setField (i := 0) hob hda ?_ ?_)
  · show 0 < 2
    decide
  have hs2 := Heap.SameBut.update s.heap it (Obj.mapFields fun x : Array Value => x.setIfInBounds 0 .none)
  generalize s.heap.update it (Obj.mapFields fun x : Array Value => x.setIfInBounds 0 .none) = h1 at hs2 ⊢
  refine stop_h (s := { s with heap := h1 }) hh (cn h1 hs2.extBut) fun h' e k ho' => ?_
  exact hE h' e (fun b o nb eb => k b o (hs2.extBut b o nb eb)) ho'
end
end L2
namespace L2
open PySem PySem.Spec PyProof.Rows PySem.Builtin
section
variable {prog : Program} {w : World} {A : Around} {E : Value → Shared → Prop} {s : Shared}
variable {z TI TO i1 i2 a1 a2 : Addr} {n1 n2 : Nat} {us vs : Array Value} {u v p q : Value}
theorem zipL_item {Q : Value → Shared → Prop} (Z : ZipApart z TI TO i1 i2 a1 a2)
    (e0 : IsZip s.heap z TI TO .none) (eI : IsPair s.heap TI (.ref i1) (.ref i2)) (eO : IsPair s.heap TO p q)
    (j1 : s.heap.IsListIter i1 a1 n1) (j2 : s.heap.IsListIter i2 a2 n2) (t1 : s.heap.IsList a1 us) (t2 : s.heap.IsList a2 vs) (hu : us[n1]? = some u) (hv : vs[n2]? = some v)
    (R : ∀ h', IsZip h' z TI TO (rawInt s.heap.objs.size) → IsPair h' TO u v → h'.IsListIter i1 a1 (n1 + 1) → h'.IsListIter i2 a2 (n2 + 1) → IsPair h' s.heap.objs.size u v → h'.objs.size = s.heap.objs.size + 1 → StayZ z TO i1 i2 s.heap h' → Q (.ref s.heap.objs.size) { s with heap := h' }) :
    wpAny (model prog w) A (Builtin.«zip.__next__» ⟨[.ref z], []⟩) (fun fin s' => ∃ v, fin = .done (.ret v) ∧ Q v s') E s := by
  show wpAny _ A (field (.ref z) 2 >>= _) _ E s
  refine wpAny_bind (wpAny_field (x := .bool false) e0 rfl rfl ?_)
  show wpAny _ A (field (.ref z) 3 >>= _) _ E s
  refine wpAny_bind (wpAny_field (x := .ref TI) e0 rfl rfl (wpAny_bind (wpAny_seqItems eI rfl ?_)))
  show wpAny _ A (Builtin.SmallTypes.ownedTupleIsFree (.ref z) >>= _) _ E s
  unfold Builtin.SmallTypes.ownedTupleIsFree
  refine wpAny_bind (wpAny_bind (wpAny_field (x := .none) e0 rfl rfl (wpAny_pure ?_)))
  simp only [if_true]
  refine wpAny_bind (wpAny_rule (wpAny_bind (wpAny_field (x := .ref TO) e0 rfl rfl ?_)))
  refine wpAny_bind (wpAny_setField_rec e0 (by simp) fun g1 f1 b1 => ?_)
  replace f1 : IsZip g1 z TI TO .ellipsis := f1
  simp only [List.zipIdx_cons, List.zipIdx_nil, List.forIn_cons, List.forIn_nil]
  refine wpAny_bind (wpAny_bind (wpAny_bind (wpAny_onRaise ?_)))
  show wpAny _ A (Builtin.SmallTypes.nextOf (.ref i1) >>= _) _ _ _
  refine wpAny_bind (nextOf_lst_item (j1.extBut b1.extBut Z.i1z) (t1.extBut b1.extBut Z.l1z) hu fun g2 k2 b2 => wpAny_pure ?_)
  have o2 : IsPair g2 TO p q := b2.extBut _ _ Z.TOi1 (b1.extBut _ _ Z.TOz eO)
  refine wpAny_bind (wpAny_seqItems o2 rfl (wpAny_bind (wpAny_updateSeq_pair o2 fun g3 o3 b3 => ?_)))
  replace o3 : IsPair g3 TO u q := o3
  refine wpAny_bind (wpAny_letGo (wpAny_pure (wpAny_bind (wpAny_bind (wpAny_onRaise ?_)))))
  show wpAny _ A (Builtin.SmallTypes.nextOf (.ref i2) >>= _) _ _ _
  refine wpAny_bind (nextOf_lst_item (((j2.extBut b1.extBut Z.i2z).extBut b2.extBut Z.i12.symm).extBut b3.extBut Z.TOi2.symm) (((t2.extBut b1.extBut Z.l2z).extBut b2.extBut Z.l2i1).extBut b3.extBut Z.l2TO) hv fun g4 k4 b4 => wpAny_pure ?_)
  have o4 : IsPair g4 TO u q := b4.extBut _ _ Z.TOi2 o3
  refine wpAny_bind (wpAny_seqItems o4 rfl (wpAny_bind (wpAny_updateSeq_pair o4 fun g5 o5 b5 => ?_)))
  replace o5 : IsPair g5 TO u v := o5
  refine wpAny_bind (wpAny_letGo (wpAny_pure (wpAny_pure (wpAny_bind (wpAny_seqItems o5 rfl (wpAny_bind (wpAny_newTuple ?_)))))))
  have sz : g5.objs.size = s.heap.objs.size := by rw [b5.1, b4.1, b3.1, b2.1, b1.1]
  have f5 : IsZip g5 z TI TO .ellipsis := b5.extBut _ _ Z.TOz.symm (b4.extBut _ _ Z.i2z.symm (b3.extBut _ _ Z.TOz.symm (b2.extBut _ _ Z.i1z.symm f1)))
  have st : StayZ z TO i1 i2 s.heap g5 := fun c o c1 c2 c3 c4 e => b5.extBut _ _ c2 (b4.extBut _ _ c4 (b3.extBut _ _ c2 (b2.extBut _ _ c3 (b1.extBut _ _ c1 e))))
  have k5 : g5.IsListIter i1 a1 (n1 + 1) := ((k2.extBut b3.extBut Z.TOi1.symm).extBut b4.extBut Z.i12).extBut b5.extBut Z.TOi1.symm
  have l5 : g5.IsListIter i2 a2 (n2 + 1) := k4.extBut b5.extBut Z.TOi2.symm
  have zl : z < g5.objs.size := Heap.lt_size f5
  show wpAny _ A (Builtin.SmallTypes.ownedTupleHandOut (.ref z) (.ref g5.objs.size) >>= _) _ _ _
  unfold Builtin.SmallTypes.ownedTupleHandOut
  have f6 : IsZip (g5.push { cls := .type "tuple", data := .seq #[u, v] }) z TI TO .ellipsis := Heap.get?_push_of_some _ f5
  refine wpAny_bind (wpAny_bind (wpAny_setField_rec f6 (by simp) fun g7 f7 b7 => ?_))
  replace f7 : IsZip g7 z TI TO (rawInt g5.objs.size) := f7
  refine wpAny_setField_rec f7 (by simp) fun g8 f8 b8 => wpAny_pure ⟨_, rfl, ?_⟩
  replace f8 : IsZip g8 z TI TO (rawInt g5.objs.size) := f8
  have lift : ∀ c o, c ≠ z → g5.get? c = some o → g8.get? c = some o := fun c o c1 e => b8.extBut _ _ c1 (b7.extBut _ _ c1 (Heap.get?_push_of_some _ e))
  have pr : IsPair g8 g5.objs.size u v := b8.extBut _ _ (Nat.ne_of_gt zl) (b7.extBut _ _ (Nat.ne_of_gt zl) (Heap.get?_push_size _ rfl))
  have s8 : g8.objs.size = g5.objs.size + 1 := by rw [b8.1, b7.1, Heap.size_push]
  rw [sz] at f8 pr s8
  show Q (.ref g5.objs.size) _
  rw [sz]
  exact R g8 f8 (lift _ _ Z.TOz o5) (k5.at fun o e => lift _ o Z.i1z e) (l5.at fun o e => lift _ o Z.i2z e) pr s8 fun c o c1 c2 c3 c4 e => lift c o c1 (st c o c1 c2 c3 c4 e)
theorem zipL_end {Q : Fin → Shared → Prop} {a : Addr} (hh : A.handled = some (.ref a)) (cn : ∀ h', StayZ z TO i1 i2 s.heap h' → Hn h' a) (Z : ZipApart z TI TO i1 i2 a1 a2)
    (e0 : IsZip s.heap z TI TO .none) (eI : IsPair s.heap TI (.ref i1) (.ref i2)) (j1 : s.heap.IsListIter i1 a1 n1) (t1 : s.heap.IsList a1 us) (hu : us[n1]? = none)
    (R : ∀ h' e, StayZ z TO i1 i2 s.heap h' → (∃ o, h'.get? e = some o ∧ o.cls = .type "StopIteration") → E (.ref e) { s with heap := h' }) :
    wpAny (model prog w) A (Builtin.«zip.__next__» ⟨[.ref z], []⟩) Q E s := by
  show wpAny _ A (field (.ref z) 2 >>= _) _ E s
  refine wpAny_bind (wpAny_field (x := .bool false) e0 rfl rfl ?_)
  show wpAny _ A (field (.ref z) 3 >>= _) _ E s
  refine wpAny_bind (wpAny_field (x := .ref TI) e0 rfl rfl (wpAny_bind (wpAny_seqItems eI rfl ?_)))
  show wpAny _ A (Builtin.SmallTypes.ownedTupleIsFree (.ref z) >>= _) _ E s
  unfold Builtin.SmallTypes.ownedTupleIsFree
  refine wpAny_bind (wpAny_bind (wpAny_field (x := .none) e0 rfl rfl (wpAny_pure ?_)))
  simp only [if_true]
  refine wpAny_bind (wpAny_rule (wpAny_bind (wpAny_field (x := .ref TO) e0 rfl rfl ?_)))
  refine wpAny_bind (wpAny_setField_rec e0 (by simp) fun g1 f1 b1 => ?_)
  replace f1 : IsZip g1 z TI TO .ellipsis := f1
  simp only [List.zipIdx_cons, List.zipIdx_nil, List.forIn_cons, List.forIn_nil]
  refine wpAny_bind (wpAny_bind (wpAny_bind (wpAny_onRaise ?_)))
  show wpAny _ A (Builtin.SmallTypes.nextOf (.ref i1) >>= _) _ _ _
  refine wpAny_bind (nextOf_lst_end_h hh (fun h' x => cn h' fun c o c1 _ c3 _ e => x _ _ c3 (b1.extBut _ _ c1 e)) (j1.extBut b1.extBut Z.i1z) (t1.extBut b1.extBut Z.l1z) hu fun g2 e b2 he => ?_)
  obtain ⟨oe, hoe, hce⟩ := he
  have f2 : IsZip g2 z TI TO .ellipsis := b2 _ _ Z.i1z.symm f1
  have ez : e ≠ z := fun x => by
    subst x
    rw [f2] at hoe
    cases hoe
    simp at hce
  refine wpAny_setField_rec f2 (by simp) fun g3 _ b3 => R g3 e (fun c o c1 _ c3 _ x => b3.extBut _ _ c1 (b2 _ _ c3 (b1.extBut _ _ c1 x))) ⟨oe, b3.extBut _ _ ez hoe, hce⟩
theorem pyNext_zipL_item {Q : Option Value → Shared → Prop} (Z : ZipApart z TI TO i1 i2 a1 a2)
    (e0 : IsZip s.heap z TI TO .none) (eI : IsPair s.heap TI (.ref i1) (.ref i2)) (eO : IsPair s.heap TO p q)
    (j1 : s.heap.IsListIter i1 a1 n1) (j2 : s.heap.IsListIter i2 a2 n2) (t1 : s.heap.IsList a1 us) (t2 : s.heap.IsList a2 vs) (hu : us[n1]? = some u) (hv : vs[n2]? = some v)
    (R : ∀ h', IsZip h' z TI TO (rawInt s.heap.objs.size) → IsPair h' TO u v → h'.IsListIter i1 a1 (n1 + 1) → h'.IsListIter i2 a2 (n2 + 1) → IsPair h' s.heap.objs.size u v → h'.objs.size = s.heap.objs.size + 1 → StayZ z TO i1 i2 s.heap h' → Q (some (.ref s.heap.objs.size)) { s with heap := h' }) :
    wpAny (model prog w) A (pyNext (.ref z)) Q E s := by
  have ty : s.TypeIs (.ref z) "zip" := ⟨_, e0, rfl⟩
  unfold pyNext
  refine wpAny_bind (wpAny_attempt (wpAny_callSpecial?_slot (name := Str.ofString "__next__") ty F.slot_zip_next (wpAny_call_entry F.slot_zip_next ty F.entry_zip_next ?_ (F.args_zip_next_1 _))))
  exact zipL_item Z e0 eI eO j1 j2 t1 t2 hu hv fun h' r1 r2 r3 r4 r5 r6 r7 => wpAny_pure (R h' r1 r2 r3 r4 r5 r6 r7)
theorem pyNext_zipL_end {Q : Option Value → Shared → Prop} {a : Addr} (hh : A.handled = some (.ref a)) (cn : ∀ h', StayZ z TO i1 i2 s.heap h' → Hn h' a) (Z : ZipApart z TI TO i1 i2 a1 a2)
    (e0 : IsZip s.heap z TI TO .none) (eI : IsPair s.heap TI (.ref i1) (.ref i2)) (j1 : s.heap.IsListIter i1 a1 n1) (t1 : s.heap.IsList a1 us) (hu : us[n1]? = none)
    (R : ∀ h', StayZ z TO i1 i2 s.heap h' → Q none { s with heap := h' }) : wpAny (model prog w) A (pyNext (.ref z)) Q E s := by
  have ty : s.TypeIs (.ref z) "zip" := ⟨_, e0, rfl⟩
  unfold pyNext
  refine wpAny_bind (wpAny_attempt (wpAny_callSpecial?_slot (name := Str.ofString "__next__") ty F.slot_zip_next (wpAny_call_entry F.slot_zip_next ty F.entry_zip_next ?_ (F.args_zip_next_1 _))))
  refine zipL_end hh cn Z e0 eI j1 t1 hu fun h' e st ⟨oe, he, hce⟩ => ?_
  exact wpAny_bind (wpAny_isInstance (T := "StopIteration") (b := true) ⟨oe, he, hce⟩ isSubtype_stop (wpAny_pure (R _ st)))
abbrev zl1 (h : Heap) (a1 : Addr) : Heap := h.push { cls := .type "list_iterator", data := .fields #[.ref a1, .int 0 0] }
abbrev zl2 (h : Heap) (a1 a2 : Addr) : Heap := (zl1 h a1).push { cls := .type "list_iterator", data := .fields #[.ref a2, .int 0 0] }
abbrev zl3 (h : Heap) (a1 a2 : Addr) : Heap := (zl2 h a1 a2).push { cls := .type "tuple", data := .seq #[.ref h.objs.size, .ref (zl1 h a1).objs.size] }
abbrev zl4 (h : Heap) (a1 a2 : Addr) : Heap := (zl3 h a1 a2).push { cls := .type "tuple", data := .seq #[.none, .none] }
abbrev zl5 (h : Heap) (a1 a2 : Addr) : Heap := (zl4 h a1 a2).push { cls := .type "zip", data := .fields #[.none, .bool false, .bool false, .ref (zl2 h a1 a2).objs.size, .ref (zl3 h a1 a2).objs.size] }
theorem zipL_new (a1 a2 : Addr) (us vs : Array Value) :
    Meets (Builtin.«zip.__new__» ⟨[.type "zip", .ref a1, .ref a2], []⟩) (fun _ R s => s.heap.IsList a1 us ∧ s.heap.IsList a2 vs ∧ R (.ok (.ret (.ref (zl4 s.heap a1 a2).objs.size))) { s with heap := zl5 s.heap a1 a2 }) :=
  .of_wp fun prog w A R s h => by
    obtain ⟨hp, g, d, tk, os⟩ := s
    obtain ⟨t1, t2, h⟩ := h
    have sub := sub_zip
    have T1 : Heap.IsList (Shared.heap ⟨hp, g, d, tk, os⟩) a1 us := t1
    have T2 : Heap.IsList (Shared.heap ⟨hp.push { cls := .type "list_iterator", data := .fields #[.ref a1, .int 0 0] }, g, d, tk, os⟩) a2 vs := Heap.IsList.push t2 _
    wp_walk using wpAny_pyIter_list T1, wpAny_pyIter_list T2
    exact ⟨_, rfl, h⟩
theorem call_zipL {Q : Value → Shared → Prop} (t1 : s.heap.IsList a1 us) (t2 : s.heap.IsList a2 vs)
    (R : ∀ h', IsZip h' (s.heap.objs.size + 4) (s.heap.objs.size + 2) (s.heap.objs.size + 3) .none → IsPair h' (s.heap.objs.size + 2) (.ref s.heap.objs.size) (.ref (s.heap.objs.size + 1)) → IsPair h' (s.heap.objs.size + 3) .none .none →
      h'.IsListIter s.heap.objs.size a1 0 → h'.IsListIter (s.heap.objs.size + 1) a2 0 → h'.objs.size = s.heap.objs.size + 5 → (∀ c o, s.heap.get? c = some o → h'.get? c = some o) → Q (.ref (s.heap.objs.size + 4)) { s with heap := h' }) :
    wpAny (model prog w) A (call (.type "zip") [.ref a1, .ref a2]) Q E s := by
  refine callType_new F.called_zip (by decide) (F.typeCall_zip_2 _ _) (F.newCall_zip_2 _ _) (fun obj => F.args_object_init_3 obj _ _) F.entry_zip_new (zipL_new a1 a2 us vs) ⟨t1, t2, ?_⟩
  have y1 : (zl1 s.heap a1).objs.size = s.heap.objs.size + 1 := Heap.size_push ..
  have y2 : (zl2 s.heap a1 a2).objs.size = s.heap.objs.size + 2 := by rw [Heap.size_push, y1]
  have y3 : (zl3 s.heap a1 a2).objs.size = s.heap.objs.size + 3 := by rw [Heap.size_push, y2]
  have y4 : (zl4 s.heap a1 a2).objs.size = s.heap.objs.size + 4 := by rw [Heap.size_push, y3]
  have y5 : (zl5 s.heap a1 a2).objs.size = s.heap.objs.size + 5 := by rw [Heap.size_push, y4]
  have x5 : (zl5 s.heap a1 a2).get? (zl4 s.heap a1 a2).objs.size = some _ := Heap.get?_push_size _ rfl
  have x4 : (zl5 s.heap a1 a2).get? (zl3 s.heap a1 a2).objs.size = some _ := Heap.get?_push_of_some _ (Heap.get?_push_size _ rfl)
  have x3 : (zl5 s.heap a1 a2).get? (zl2 s.heap a1 a2).objs.size = some _ := Heap.get?_push_of_some _ (Heap.get?_push_of_some _ (Heap.get?_push_size _ rfl))
  have x2 : (zl5 s.heap a1 a2).get? (zl1 s.heap a1).objs.size = some _ := Heap.get?_push_of_some _ (Heap.get?_push_of_some _ (Heap.get?_push_of_some _ (Heap.get?_push_size _ rfl)))
  have x1 : (zl5 s.heap a1 a2).get? s.heap.objs.size = some _ := Heap.get?_push_of_some _ (Heap.get?_push_of_some _ (Heap.get?_push_of_some _ (Heap.get?_push_of_some _ (Heap.get?_push_size _ rfl))))
  show _ ∧ _
  rw [y2, y3, y4] at x5
  rw [y1, y2] at x3
  rw [y3] at x4
  rw [y1] at x2
  rw [y4]
  exact ⟨⟨_, x5, rfl⟩, R _ x5 x3 x4 ⟨_, x1, rfl, rfl⟩ ⟨_, x2, rfl, rfl⟩ y5 fun c o x => Heap.get?_push_of_some _ (Heap.get?_push_of_some _ (Heap.get?_push_of_some _ (Heap.get?_push_of_some _ (Heap.get?_push_of_some _ x))))⟩
end
end L2
namespace L2
open PySem PySem.Spec PyProof.Rows PySem.Builtin
section
variable {prog : Program} {w : World} {A : Around} {E : Value → Shared → Prop} {s : Shared}
theorem tup_end_h {it t a : Addr} {i : Nat} {items : Array Value} {Q : Option Value → Shared → Prop} (hh : A.handled = some (.ref a)) (cn : ∀ h', Heap.ExtBut it s.heap h' → Hn h' a)
    (hit : s.heap.IsTupleIter it t i) (ht : s.heap.IsTuple t items) (hx : items[i]? = none) (hQ : ∀ h', Heap.ExtBut it s.heap h' → Q none { s with heap := h' }) : wpAny (model prog w) A (pyNext (.ref it)) Q E s := by
  obtain ⟨ob, hob, hcl, hda⟩ := id hit
  obtain ⟨ol, hol, _, nl, hdl⟩ := ht
  unfold pyNext
  refine wpAny_bind (wpAny_attempt ?_)
  refine wpAny_callSpecial?_slot hit.typeIs PySem.F.slot_tuple_iterator_next (wpAny_call_entry PySem.F.slot_tuple_iterator_next hit.typeIs PySem.F.entry_tuple_iterator_next ?_ (PySem.F.args_tuple_iterator_next_1 (.ref it)))
  show wpAny (model prog w) A.in1 (field (.ref it) 0 >>= _) _ _ s
  refine wpAny_bind (wpAny_field hob hda rfl ?_)
  dsimp only
  rw [if_neg (by exact Bool.false_ne_true)]
  refine wpAny_bind (wpAny_field hob hda rfl ?_)
  refine wpAny_bind (wpAny_seqItems hol hdl ?_)
  simp only [Int.toNat_natCast, hx]
  refine wpAny_bind (wpAny_rule ?_)
  refine wpAny_bind (wpAny_setField (i := 0) hob hda ?_ ?_)
  · show 0 < 2
    decide
  have hs2 := Heap.SameBut.update s.heap it (Obj.mapFields fun x : Array Value => x.setIfInBounds 0 .none)
  generalize s.heap.update it (Obj.mapFields fun x : Array Value => x.setIfInBounds 0 .none) = h1 at hs2 ⊢
  refine stop_h (A := A.in1) (s := { s with heap := h1 }) hh (cn h1 hs2.extBut) fun h' e k ⟨oe, he, hce⟩ => ?_
  exact wpAny_bind (wpAny_isInstance (T := "StopIteration") (b := true) ⟨oe, he, hce⟩ isSubtype_stop (wpAny_pure (hQ h' fun b o nb eb => k b o (hs2.extBut b o nb eb))))
theorem unpack_h {t a : Addr} {items : Array Value} {targets : List (Bool × (Value → Sem Unit))} {Q : Unit → Shared → Prop} (hh : A.handled = some (.ref a)) (cn : ∀ h', Heap.ExtBut s.heap.objs.size s.heap h' → Hn h' a) (ht : s.heap.IsTuple t items)
    (hn : targets.length = items.size) (hstar : targets.findIdx? (·.1) = none) (h : ∀ h', Heap.ExtBut s.heap.objs.size s.heap h' → wpAny (model prog w) A (assignInOrder (targets.map (·.2)) items.toList) Q E { s with heap := h' }) :
    wpAny (model prog w) A (unpack (.ref t) targets) Q E s := by
  have nt : t ≠ s.heap.objs.size := by
    obtain ⟨ob, hob, _⟩ := ht
    exact Nat.ne_of_lt (Heap.lt_size hob)
  unfold unpack
  rw [hn, hstar]
  refine wpAny_bind (wpAny_holding ?_)
  unfold unpackItems notIterableAtAll
  refine wpAny_bind (wpAny_bind (wpAny_specialOf ht.typeIs F.slot_tuple_iter.lookup (wpAny_pure ?_)))
  simp only [Bool.false_eq_true, if_false]
  refine wpAny_bind (wpAny_holding (wpAny_pyIter_tuple ht ?_))
  refine wpAny_bind (wpAny_holding (wpAny_draw_tuple nt items.size 0 _ _ ⟨_, Heap.get?_push_size _ rfl, rfl, rfl⟩ (ht.push _) (by omega) fun g hit1 hs1 => ?_))
  rw [List.drop_zero, List.take_of_length_le (by simp), if_neg (by simp)]
  have t1 : g.IsTuple t items := (ht.push _).extBut hs1.extBut nt
  have up : Heap.ExtBut s.heap.objs.size s.heap g := fun b o hb e => hs1.extBut b o hb (Heap.get?_push_of_some _ e)
  refine wpAny_bind (wpAny_holding (tup_end_h (s := { s with heap := g }) hh (fun h' x => cn h' fun b o hb e => x b o hb (up b o hb e)) hit1 t1 (by simp) fun g2 x2 => ?_))
  simp only [Option.isSome_none, Bool.false_eq_true, if_false]
  exact wpAny_pure (h g2 fun b o hb e => x2 b o hb (up b o hb e))
theorem assign_Tuple_h {env : Env} {elts : List Expr} {x1} {pos : Pos} {t a : Addr} {items : Array Value} {Q : Unit → Shared → Prop} (hh : A.handled = some (.ref a)) (cn : ∀ h', Heap.ExtBut s.heap.objs.size s.heap h' → Hn h' a) (ht : s.heap.IsTuple t items)
    (hn : (assignEach elts env).length = items.size) (hstar : (assignEach elts env).findIdx? (·.1) = none)
    (h : ∀ h', Heap.ExtBut s.heap.objs.size s.heap h' → wpAny (model prog w) A (assignInOrder ((assignEach elts env).map (·.2)) items.toList) Q E { s with heap := h' }) : wpAny (model prog w) A (assign (.Tuple elts x1 pos) env (.ref t)) Q E s := by
  rw [arm_assign_Tuple]
  exact wpAny_bind (wpAny_standAt (unpack_h hh cn ht hn hstar h))
end
end L2
namespace L2
open PySem PySem.Spec PySem.Calls PyProof.Rows PySem.W Builtin Builtin.ObjectAttr
def XH (e C : Addr) (d : Option Addr) (h : Heap) : Prop := ∃ o vs, h.get? e = some o ∧ o.cls = .ref C ∧ o.dict = d ∧ o.data = .fields vs ∧ vs[2]? = some .none
abbrev xH (e C : Addr) (d : Option Addr) : HO := .ext (XH e C d)
theorem XH.stay {e C : Addr} {d : Option Addr} {h1 h2 : Heap} (x : XH e C d h1) (k : ∀ o, h1.get? e = some o → h2.get? e = some o) : XH e C d h2 := let ⟨o, vs, z, r⟩ := x; ⟨o, vs, k _ z, r⟩
theorem XH.at {e C : Addr} {d : Option Addr} {h : Heap} (x : XH e C d h) : ExcAt e C h := let ⟨o, _, z, r, _⟩ := x; ⟨o, z, r⟩
theorem xh_keep {P : Program} {w : World} {H : Hp} {h h' : Heap} {a C : Addr} {d : Option Addr} (x : ObjOk P w H h a (xH a C d)) (k : ∀ o, h.get? a = some o → h'.get? a = some o) : Hn h' a := by
  obtain ⟨o, vs, e, _, _, dt, c⟩ := (show XH a C d h from x.1)
  exact ⟨o, vs, k o e, dt, c⟩
structure TurnH (ex : Addr) (P : Program) (w : World) (K : PySem.W.Frag) (tg : Expr) (J : It) (fp : List Addr) (it : Addr) (tn : Nat → Heap → Prop) : Prop where
  mem : it ∈ fp
  obj : ∀ i h, tn i h → ∀ b ∈ fp, ∃ o, h.get? b = some o ∧ ∀ v, o.data ≠ .cell v
  keep : ∀ i h h', tn i h → (∀ b ∈ fp, ∀ o, h.get? b = some o → h'.get? b = some o) → tn i h'
  item : ∀ (X : Cx), X.prog = P → X.w = w → X.K = K → X.A.handled = some (.ref ex) → ∀ (i : Nat) (pins : List (Addr × Obj)) (s : Shared) (σ : St) (H : Hp) (E : Value → Shared → Prop), Inv X pins σ H s → (∀ b ∈ fp, FpOk X pins H b) → tn i s.heap → J.go i H →
    wpAny (model P w) X.A (pyNext (.ref it)) (fun r s1 => ∃ u, r = some u ∧
      wpAny (model P w) X.A (letOwnedTupleGo tg (.ref it) u) (fun _ s2 => ∃ x H', Inv X pins σ H' s2 ∧ RelV x u ∧ J.yld i H x H' ∧ tn (i + 1) s2.heap ∧ ∀ b ∈ fp, H' b = none) E s1) E s
  done : ∀ (X : Cx), X.prog = P → X.w = w → X.K = K → X.A.handled = some (.ref ex) → ∀ (i : Nat) (pins : List (Addr × Obj)) (s : Shared) (σ : St) (H : Hp) (E : Value → Shared → Prop), Inv X pins σ H s → (∀ b ∈ fp, FpOk X pins H b) → tn i s.heap → J.stop i H →
    wpAny (model P w) X.A (pyNext (.ref it)) (fun r s1 => r = none ∧ Inv X pins σ H s1) E s
  self : ∀ (A : Around) (i : Nat) (s : Shared) (Q : Value → Shared → Prop) (E : Value → Shared → Prop), tn i s.heap → Q (.ref it) s → wpAny (model P w) A (pyIter (.ref it)) Q E s
def PIEH (ex : Addr) (X : Cx) (pins : List (Addr × Obj)) (σ : St) (tg : Expr) (R : It → Hp → Prop) (itv : Value) (s2 : Shared) : Prop :=
  ∃ (it : Addr) (fp : List Addr) (tn : Nat → Heap → Prop) (J : It) (H' : Hp), itv = .ref it ∧ Inv X pins σ H' s2 ∧ TurnH ex X.prog X.w X.K tg J fp it tn ∧ tn 0 s2.heap ∧ (∀ b ∈ fp, FpOk X pins H' b) ∧ R J H'
def PIH (ex : Addr) (X : Cx) (tg iter : Expr) (wi : TI) : Prop :=
  ∀ (pins : List (Addr × Obj)) (s : Shared) (σ : St) (H : Hp) (R : It → Hp → Prop), Inv X pins σ H s → wi σ H R →
    wpAny (model X.prog X.w) X.A (eval iter X.env) (fun v s1 => wpAny (model X.prog X.w) X.A (pyIter v) (PIEH ex X pins σ tg R) X.xe s1) X.xe s
def ItzH (K : PySem.W.Frag) (ex C : Addr) (dx : Option Addr) (a1 a2 : Addr) : It :=
  ⟨fun i H => ∃ xs ys x y, SqL K H a1 xs ∧ SqL K H a2 ys ∧ xs[i]? = some x ∧ ys[i]? = some y,
   fun i H x H' => ∃ p u v, H p = none ∧ x = .ref p ∧ (∀ xs, SqL K H a1 xs → xs[i]? = some u) ∧ (∀ ys, SqL K H a2 ys → ys[i]? = some v) ∧ H' = upd H p (.tup [u, v]),
   fun i H => ∃ xs, SqL K H a1 xs ∧ xs.length ≤ i ∧ H ex = some (xH ex C dx)⟩
def TnZH (z TI TO i1 i2 a1 a2 : Addr) (i : Nat) (h : Heap) : Prop := IsZip h z TI TO .none ∧ IsPair h TI (.ref i1) (.ref i2) ∧ (∃ p q, IsPair h TO p q) ∧ h.IsListIter i1 a1 i ∧ h.IsListIter i2 a2 i
section
variable {z TI TO i1 i2 a1 a2 ex C : Addr} {dx : Option Addr}
theorem TnZH.obj {i : Nat} {h : Heap} (t : TnZH z TI TO i1 i2 a1 a2 i h) (b : Addr) (hb : b ∈ [z, TI, TO, i1, i2]) : ∃ o, h.get? b = some o ∧ ∀ v, o.data ≠ .cell v := by
  obtain ⟨t0, tI, ⟨p, q, tO⟩, ⟨o1, e1, c1, d1⟩, ⟨o2, e2, c2, d2⟩⟩ := t
  simp only [List.mem_cons, List.not_mem_nil, or_false] at hb
  rcases hb with z | z | z | z | z
  · rw [z]; exact ⟨_, t0, fun v q => by cases q⟩
  · rw [z]; exact ⟨_, tI, fun v q => by cases q⟩
  · rw [z]; exact ⟨_, tO, fun v q => by cases q⟩
  · rw [z]; exact ⟨o1, e1, fun v q => by rw [d1] at q; cases q⟩
  · rw [z]; exact ⟨o2, e2, fun v q => by rw [d2] at q; cases q⟩
theorem turn_zipH {P : Program} {w : World} {K : PySem.W.Frag} {elts : List Expr} {x1} {tpos : Pos} (Z : ZipApart z TI TO i1 i2 a1 a2) : TurnH ex P w K (.Tuple elts x1 tpos) (ItzH K ex C dx a1 a2) [z, TI, TO, i1, i2] z (TnZH z TI TO i1 i2 a1 a2) where
  mem := by simp
  obj := fun i h t b hb => t.obj b hb
  keep := fun i h h' ⟨t0, tI, ⟨p, q, tO⟩, j1, j2⟩ k => ⟨k z (by simp) _ t0, k TI (by simp) _ tI, ⟨p, q, k TO (by simp) _ tO⟩, j1.at fun o e => k i1 (by simp) o e, j2.at fun o e => k i2 (by simp) o e⟩
  item := by
    intro X hP hw hK hc i pins s σ H E I hf t hg
    have alive := t.obj
    obtain ⟨t0, tI, ⟨p, q, tO⟩, j1, j2⟩ := t
    subst hP hw hK
    obtain ⟨xs, ys, x, y, hx, hy, gx, gy⟩ := hg
    obtain ⟨us, rx, px, zx⟩ := I.list hx
    obtain ⟨vs, ry, py, zy⟩ := I.list hy
    obtain ⟨u, hu, ru⟩ := rx.get gx
    obtain ⟨v, hv, rv⟩ := ry.get gy
    have fz := hf z (by simp)
    have fO := hf TO (by simp)
    have f1 := hf i1 (by simp)
    have f2 := hf i2 (by simp)
    refine pyNext_zipL_item Z t0 tI tO j1 j2 px.isList py.isList (u := u) (v := v) (by simpa using hu) (by simpa using hv) fun h1 m0 mO m1 m2 mp msz mk => ?_
    refine ⟨_, rfl, ?_⟩
    refine wpAny_letOwnedTupleGo_zip m0 fun h2 n0 nb => ?_
    have nep : ∀ b o, s.heap.get? b = some o → b ≠ s.heap.objs.size := fun b o q => Nat.ne_of_lt (Heap.lt_size q)
    have k2 : ∀ b o, b ∉ [z, TO, i1, i2] → s.heap.get? b = some o → h2.get? b = some o := fun b o hb q =>
      nb.extBut b o (fun e => hb (by simp [e])) (mk b o (fun e => hb (by simp [e])) (fun e => hb (by simp [e])) (fun e => hb (by simp [e])) (fun e => hb (by simp [e])) q)
    have nt : ∀ b o, H b = some o → b ∉ [z, TO, i1, i2] := fun b o q hb => by
      simp only [List.mem_cons, List.not_mem_nil, or_false] at hb
      rcases hb with e | e | e | e
      · rw [e, fz.1] at q; cases q
      · rw [e, fO.1] at q; cases q
      · rw [e, f1.1] at q; cases q
      · rw [e, f2.1] at q; cases q
    have hp0 : H s.heap.objs.size = none := I.hok.fresh (Nat.le_refl _)
    have htp : h2.get? s.heap.objs.size = some { cls := .type "tuple", data := .seq #[u, v] } := nb.extBut _ _ (Nat.ne_of_gt (Heap.lt_size t0)) mp
    have J : Inv X pins σ (upd H s.heap.objs.size (.tup [x, y])) { s with heap := h2 } := by
      refine I.step (g' := s.gens) (d' := s.drawn) (t' := s.toks) (ch := [z, TO, i1, i2]) (fun b hb => ?_) (fun b o _ _ hc' q n => k2 b o hc' q) (fun b o _ _ hc' q n => ⟨o.slots, k2 b o hc' q⟩)
        (fun b o _ q n => (upd_ne (nep b o q)).trans n) (fun b o hc' q => ⟨o, k2 b o hc' q⟩)
        (fun b ys q => (upd_ne (ne_of_none q hp0)).trans q) (fun b o y q => (upd_ne (ne_of_none q hp0)).trans q) (fun b ps q => ⟨#[], by rw [upd_ne (ne_of_none q hp0), q]; simp⟩) (fun m hm => ?_) (fun b o q => ?_) I.bare
      · simp only [List.mem_cons, List.not_mem_nil, or_false] at hb
        rcases hb with e | e | e | e
        · rw [e]; exact ⟨fz.2.2.2.1, fz.2.1, fz.2.2.2.2.1, fz.2.2.2.2.2⟩
        · rw [e]; exact ⟨fO.2.2.2.1, fO.2.1, fO.2.2.2.2.1, fO.2.2.2.2.2⟩
        · rw [e]; exact ⟨f1.2.2.2.1, f1.2.1, f1.2.2.2.2.1, f1.2.2.2.2.2⟩
        · rw [e]; exact ⟨f2.2.2.2.1, f2.2.1, f2.2.2.2.2.1, f2.2.2.2.2.2⟩
      · obtain ⟨o, es, ep, ho, r⟩ := hm
        refine ⟨o, es, ep, k2 _ o (fun hb => ?_) ho, r⟩
        simp only [List.mem_cons, List.not_mem_nil, or_false] at hb
        rcases hb with e | e | e | e
        · exact fz.2.1 e.symm
        · exact fO.2.1 e.symm
        · exact f1.2.1 e.symm
        · exact f2.2.1 e.symm
      · by_cases hb : b = s.heap.objs.size
        · subst hb
          rw [upd_same] at q
          cases q
          exact ⟨by show 2 ≤ sizeLine; decide, [u, v], .cons ru (.cons rv .nil), _, htp, rfl, _, rfl⟩
        · rw [upd_ne hb] at q
          refine (I.hok b o q).stay (fun c v hc' e => k2 c v ?_ e) (fun c e => (upd_ne (ne_of_none e hp0)).trans e) fun c ys e => (upd_ne (ne_of_none e hp0)).trans e
          rcases hc' with e | e
          · rw [e]; exact nt b o q
          · exact nt c _ e
    refine ⟨.ref s.heap.objs.size, _, J, rfl, ⟨s.heap.objs.size, x, y, hp0, rfl, (fun l hl => by rw [I.list_inj hl hx]; exact gx), (fun l hl => by rw [I.list_inj hl hy]; exact gy), rfl⟩,
      ⟨n0, nb.extBut _ _ Z.TIz (mk _ _ Z.TIz Z.TITO Z.TIi1 Z.TIi2 tI), ⟨u, v, nb.extBut _ _ Z.TOz mO⟩, m1.extBut nb.extBut Z.i1z, m2.extBut nb.extBut Z.i2z⟩, fun b hb => ?_⟩
    obtain ⟨o, eo, _⟩ := alive b hb
    rw [upd_ne (nep _ _ eo)]
    exact (hf b hb).1
  done := by
    intro X hP hw hK hc i pins s σ H E I hf t hg
    obtain ⟨t0, tI, ⟨p, q, tO⟩, j1, j2⟩ := t
    subst hP hw hK
    obtain ⟨xs, hx, hi, hex⟩ := hg
    obtain ⟨us, rx, px, zx⟩ := I.list hx
    have hl := rx.length
    have fz := hf z (by simp)
    have fO := hf TO (by simp)
    have f1 := hf i1 (by simp)
    have f2 := hf i2 (by simp)
    refine pyNext_zipL_end (TO := TO) (i2 := i2) hc (fun h' st => xh_keep (I.hok ex _ hex) fun o e => st _ o (ne_of_none hex fz.1) (ne_of_none hex fO.1) (ne_of_none hex f1.1) (ne_of_none hex f2.1) e) Z t0 tI j1 px.isList (by simp; omega) fun h' st => ⟨rfl, ?_⟩
    have k2 : ∀ b o, b ∉ [z, TO, i1, i2] → s.heap.get? b = some o → h'.get? b = some o := fun b o hb q => st b o (fun e => hb (by simp [e])) (fun e => hb (by simp [e])) (fun e => hb (by simp [e])) (fun e => hb (by simp [e])) q
    have nt : ∀ b o, H b = some o → b ∉ [z, TO, i1, i2] := fun b o q hb => by
      simp only [List.mem_cons, List.not_mem_nil, or_false] at hb
      rcases hb with e | e | e | e
      · rw [e, fz.1] at q; cases q
      · rw [e, fO.1] at q; cases q
      · rw [e, f1.1] at q; cases q
      · rw [e, f2.1] at q; cases q
    refine I.step (g' := s.gens) (d' := s.drawn) (t' := s.toks) (ch := [z, TO, i1, i2]) (fun b hb => ?_) (fun b o _ _ hc' q n => k2 b o hc' q) (fun b o _ _ hc' q n => ⟨o.slots, k2 b o hc' q⟩)
        (fun b o _ q n => n) (fun b o hc' q => ⟨o, k2 b o hc' q⟩)
        (fun b ys q => q) (fun b o y q => q) (fun b ps q => ⟨#[], by rw [q]; simp⟩) (fun m hm => ?_) (fun b o q => ?_) I.bare
    · simp only [List.mem_cons, List.not_mem_nil, or_false] at hb
      rcases hb with e | e | e | e
      · rw [e]; exact ⟨fz.2.2.2.1, fz.2.1, fz.2.2.2.2.1, fz.2.2.2.2.2⟩
      · rw [e]; exact ⟨fO.2.2.2.1, fO.2.1, fO.2.2.2.2.1, fO.2.2.2.2.2⟩
      · rw [e]; exact ⟨f1.2.2.2.1, f1.2.1, f1.2.2.2.2.1, f1.2.2.2.2.2⟩
      · rw [e]; exact ⟨f2.2.2.2.1, f2.2.1, f2.2.2.2.2.1, f2.2.2.2.2.2⟩
    · obtain ⟨o, es, ep, ho, r⟩ := hm
      refine ⟨o, es, ep, k2 _ o (fun hb => ?_) ho, r⟩
      simp only [List.mem_cons, List.not_mem_nil, or_false] at hb
      rcases hb with e | e | e | e
      · exact fz.2.1 e.symm
      · exact fO.2.1 e.symm
      · exact f1.2.1 e.symm
      · exact f2.2.1 e.symm
    · refine (I.hok b o q).stay (fun c v hc' e => k2 c v ?_ e) (fun c e => e) fun c ys e => e
      rcases hc' with e | e
      · rw [e]; exact nt b o q
      · exact nt c _ e
  self := fun _ _ _ _ _ t h => wpAny_pyIter_zip t.1 h
end
section
variable {X : Cx} {elts : List Expr} {x1 : Nat} {tpos : Pos}
def iZipH (K : PySem.W.Frag) (ex C : Addr) (dx : Option Addr) (ta : TA) : TI := fun σ H R => ta σ H fun vs H1 => ∃ a b, vs = [.ref a, .ref b] ∧ (∃ xs, SqL K H1 a xs) ∧ (∃ ys, SqL K H1 b ys) ∧ R (ItzH K ex C dx a b) H1
theorem pi_zipH {ex C : Addr} {dx : Option Addr} {a b : Expr} {ta : TA} {p pos : Pos} (hg : Gl X "zip") (hm : X.mg "zip" = none) (ha : PA X [a, b] ta) (hs : starEach [a, b] X.env = [(false, eval a X.env), (false, eval b X.env)] := by rfl) (hs2 : starEach [b] X.env = [(false, eval b X.env)] := by rfl) :
    PIH ex X (.Tuple elts x1 tpos) (.Call (.Name "zip" p) [a, b] [] pos) (iZipH X.K ex C dx ta) := by
  intro pins s σ H R I h
  refine Call_ (ld_blt I hg hm boot_zip (PyProof.Rows.callWith_type1 (thn (ha pos pins s σ H _ I h) fun us s1 ⟨vs, H1, I1, r1, q1⟩ => ?_) (by rw [hs, hs2]) (by rw [hs2]; rfl)))
  obtain ⟨a, b, e, ⟨xs, hx⟩, ⟨ys, hy⟩, q⟩ := q1
  subst e
  obtain ⟨u, v, rfl, ru, rv⟩ := vals2 r1
  cases ru
  cases rv
  obtain ⟨its, rx, px, zx⟩ := I1.list hx
  obtain ⟨jts, ry, py, zy⟩ := I1.list hy
  have px : s1.heap.IsList a its.toArray := px.isList
  have py : s1.heap.IsList b jts.toArray := py.isList
  have l1 : a < s1.heap.objs.size := by
    obtain ⟨_, e, _⟩ := px
    exact Heap.lt_size e
  have l2 : b < s1.heap.objs.size := by
    obtain ⟨_, e, _⟩ := py
    exact Heap.lt_size e
  refine call_zipL px py fun h' e0 eI eO j1 j2 hsz hk => ?_
  have I2 : Inv X pins σ H1 { s1 with heap := h' } := I1.kept (t' := s1.toks) hk
  refine wpAny_pyIter_zip e0 ⟨s1.heap.objs.size + 4, [s1.heap.objs.size + 4, s1.heap.objs.size + 2, s1.heap.objs.size + 3, s1.heap.objs.size, s1.heap.objs.size + 1], _, _, H1, rfl, I2, turn_zipH (zipApart_new l1 l2), ⟨e0, eI, ⟨_, _, eO⟩, j1, j2⟩, fun b hb => ?_, q⟩
  have le : s1.heap.objs.size ≤ b := by
    simp only [List.mem_cons, List.not_mem_nil, or_false] at hb
    rcases hb with e | e | e | e | e
    · rw [e]; exact Nat.le_add_right _ 4
    · rw [e]; exact Nat.le_add_right _ 2
    · rw [e]; exact Nat.le_add_right _ 3
    · rw [e]; exact Nat.le_refl _
    · rw [e]; exact Nat.le_add_right _ 1
  exact I1.fpOk le (I1.hok.fresh le)
end
theorem comp_runH {ex : Addr} {X : Cx} {tg elt iter : Expr} {ifs : List Expr} {scope : Scope} {pos : Pos} {wi : TI} {g : TG} {tt : TT} {te : TE} {cl : List (Str × Addr)} (N' : List Str) (caps : List (Option Nat)) (hc : X.A.handled = some (.ref ex)) (hi : PIH ex X tg iter wi)
    (hg : ∀ C fp pins s2 H2, PG (cxC X scope cl N' C fp pins s2 H2) tg g) (ht : ∀ C fp pins s2 H2, PIfs (cxC X scope cl N' C fp pins s2 H2) ifs tt) (he : ∀ C fp pins s2 H2, PE (cxC X scope cl N' C fp pins s2 H2) elt te)
    (cap : CapOk X scope cl) (hcell : ∀ y ∈ scope.names, y.2 ≠ .cell) (hkind : scope.kind = .function) (hnames : ∀ y ∈ scope.names, y.2 = .local → scope.names.lookup y.1 = some .local) (hN : caps.length = N'.length)
    (hcap : ∀ (i j : Nat), caps[i]? = some (some j) → ∃ y : Str, N'[i]? = some y ∧ X.N[j]? = some y ∧ (relabel scope X.env).names.lookup y = some .cell ∧ X.env.scope.names.lookup y = some .cell)
    (hs : ∀ x, foldedSetIterable iter X.env x = pure x) {pins : List (Addr × Obj)} {s : Shared} {σ : St} {H : Hp} {Q : VK} {use : Option (Value → Sem Unit)} {QQ : Value → Shared → Prop}
    (fin : ∀ (C D : Addr) (fp : List Addr) (s2 s4 : Shared) (H2 H4 : Hp) (pl : List (Addr × Obj)) (σ' : St) (items : Array Value) (ys : List V), Inv X pins σ H2 s2 → (∀ b ∈ fp, FpOk X pins H2 b) → Inv (cxC X scope cl N' C fp pins s2 H2) pl σ' H4 s4 → s4.heap.PlainList D items → H4 D = none → s2.heap.get? D = none → D ≠ C →
      Vals ys items.toList → ys.length ≤ sizeLine → (∀ p, H4 p = none → Q (.ref p) (upd H4 p (.lst ys))) → compPost (model X.prog X.w) X.A X.xe use QQ (.ref D) C (.ok .next) s4)
    (I : Inv X pins σ H s) (h : tComp wi g tt te caps σ H Q) : wpAny (model X.prog X.w) X.A (comprehension (.ListComp elt [⟨tg, iter, ifs, 0⟩] scope pos) scope X.env (firstIterPos [⟨tg, iter, ifs, 0⟩] pos) (newList []) false (eval iter X.env) use) QQ X.xe s := by
  refine wpAny_comprehension_free (use := use) rfl hs cap.clos hkind hnames (thn (hi pins s σ H _ I h) fun xv s₁ h₁ => thn h₁ fun itv s₂ h₂ => ?_)
  obtain ⟨it, fp, tn, J, H2, rfl, I2, T, st2, f2, W, ⟨m0, w0⟩, turn⟩ := h₂
  have hfp : ∀ b ∈ fp, b < s₂.heap.objs.size := fun b hb => by obtain ⟨o, e, _⟩ := T.obj _ _ st2 b hb; exact Heap.lt_size e
  refine wpAny_newObj_type (wpAny_newFunctionEnv hcell (by intro y hy; simp at hy) (fun h₁ hns₁ hsb₁ => ?_) hkind)
  dsimp only at hns₁ hsb₁ ⊢
  generalize hH2 : s₂.heap.push { cls := .type "list", dict := none, data := .seq ([] : List Value).toArray } = H2' at hns₁ hsb₁ ⊢
  have hC : H2'.objs.size = s₂.heap.objs.size + 1 := by rw [← hH2, Heap.size_push]
  have hDC : s₂.heap.objs.size ≠ H2'.objs.size := by rw [hC]; exact Nat.ne_of_lt (Nat.lt_succ_self _)
  have hCle : s₂.heap.objs.size ≤ H2'.objs.size := by rw [hC]; exact Nat.le_succ _
  have below : ∀ b, b < s₂.heap.objs.size → b ≠ H2'.objs.size := fun b hb => by rw [hC]; exact Nat.ne_of_lt (Nat.lt_succ_of_lt hb)
  have old : ∀ b o, s₂.heap.get? b = some o → h₁.get? b = some o := fun b o e => hsb₁.extBut b o (below b (Heap.lt_size e)) (Heap.get?_push_of_some _ (hH2 ▸ Heap.get?_push_of_some _ e))
  have hacc : h₁.PlainList s₂.heap.objs.size #[] := ⟨_, hsb₁.extBut _ _ hDC (Heap.get?_push_of_some _ (hH2 ▸ Heap.get?_push_size _ rfl))⟩
  have newD : s₂.heap.get? s₂.heap.objs.size = none := Heap.get?_none_of_le (Nat.le_refl _)
  have nD2 : H2 s₂.heap.objs.size = none := I2.hok.fresh (Nat.le_refl _)
  generalize hDD : s₂.heap.objs.size = D at *
  generalize hCC : H2'.objs.size = C at *
  have fpD : ∀ b ∈ fp, b ≠ D := fun b hb => Nat.ne_of_lt (hfp b hb)
  have statX : ∀ {H' : Hp} {pl : List (Addr × Obj)}, (∀ p ∈ pl, p.1 = D) → (∀ b ∈ fp, H' b = none) → ∀ b ∈ fp, FpOk (cxC X scope cl N' C fp pins s₂ H2) pl H' b := fun {H' pl} hpl hn b hb => by
    obtain ⟨f0, f1, f2', f3, f4, f5⟩ := f2 b hb
    refine ⟨hn b hb, below b (hfp b hb), notStk I2 f1 f2', .inl hb, fun y c e => f4 y c (cap.sub y c e), fun p hp => ?_⟩
    rcases List.mem_append.mp hp with hp | hp
    · exact f5 p hp
    · rw [hpl p hp]; exact (fpD b hb).symm
  have ht' : ∀ n s', (∃ i σ' ys, ∃ (items : Array Value), ∃ H', Inv (cxC X scope cl N' C fp pins s₂ H2) [] σ' H' s' ∧ tn i s'.heap ∧ (∀ b ∈ fp, H' b = none) ∧ s'.heap.PlainList D items ∧ Vals ys items.toList ∧ H' D = none ∧ W i n σ' ys H') →
      wpAny (model X.prog X.w) X.A (pyNext (.ref it)) (fun r s₁ => match r with
      | none => compPost (model X.prog X.w) X.A X.xe use QQ (.ref D) C (.ok .next) s₁
      | some v => wpAny (model X.prog X.w) X.A (letOwnedTupleGo tg (.ref it) v) (fun _ s₁' => wpAny (model X.prog X.w) X.A (assign tg (compEnvC scope cl C X.env) v) (fun _ s₂' =>
          wpAny (model X.prog X.w) X.A (forIn ifs true fun c r => if r = true then do let ok ← isTrue c (compEnvC scope cl C X.env) (eval c (compEnvC scope cl C X.env)); pure (ForInStep.yield ok) else pure (ForInStep.yield r)) (fun ok s₃ =>
            if ok = true then wpAny (model X.prog X.w) X.A (eval elt (compEnvC scope cl C X.env)) (fun x s₄ =>
              wpAny (model X.prog X.w) X.A (call (.builtin "list.append") [.ref D, x]) (fun _ s₅ => ∃ m, m < n ∧ ∃ i σ' ys, ∃ (items : Array Value), ∃ H', Inv (cxC X scope cl N' C fp pins s₂ H2) [] σ' H' s₅ ∧ tn i s₅.heap ∧ (∀ b ∈ fp, H' b = none) ∧ s₅.heap.PlainList D items ∧ Vals ys items.toList ∧ H' D = none ∧ W i m σ' ys H') (fun _ _ => False) s₄) (fun _ _ => False) s₃
            else ∃ m, m < n ∧ ∃ i σ' ys, ∃ (items : Array Value), ∃ H', Inv (cxC X scope cl N' C fp pins s₂ H2) [] σ' H' s₃ ∧ tn i s₃.heap ∧ (∀ b ∈ fp, H' b = none) ∧ s₃.heap.PlainList D items ∧ Vals ys items.toList ∧ H' D = none ∧ W i m σ' ys H') (fun _ _ => False) s₂') (fun _ _ => False) s₁') (fun _ _ => False) s₁) (fun _ _ => False) s' := by
    rintro n s3 ⟨i, σ3, ys, items, H3, I3, st3, fr3, pl3, rv3, nD3, w3⟩
    obtain ⟨hz, hw⟩ := turn i n σ3 ys H3 w3
    obtain ⟨n0, ho⟩ := id pl3
    have nfsD : D ∉ frs X.stack := fun z => by
      obtain ⟨_, o, e, _⟩ := I2.stack.mem z
      rw [newD] at e; cases e
    have I3p : Inv (cxC X scope cl N' C fp pins s₂ H2) [(D, { cls := .type "list", data := .seq items n0 })] σ3 H3 s3 := I3.pins_of fun p hp => by
      have e : p = (D, { cls := .type "list", data := .seq items n0 }) := by simpa using hp
      subst e
      exact ⟨ho, nD3, hDC, nfsD, fun v z => by cases z⟩
    have one : ∀ p ∈ [(D, ({ cls := .type "list", data := .seq items n0 } : Obj))], p.1 = D := fun p hp => by
      have e : p = (D, { cls := .type "list", data := .seq items n0 }) := by simpa using hp
      subst e; rfl
    rcases hw with ⟨stop, qn⟩ | ⟨go, step⟩
    · refine thn (T.done (cxC X scope cl N' C fp pins s₂ H2) rfl rfl rfl hc i _ s3 σ3 H3 (fun _ _ => False) I3p (statX one fr3) st3 stop) fun r s4 ⟨hr, I4⟩ => ?_
      subst hr
      obtain ⟨e4, nD4, _⟩ := I4.pin _ (List.mem_append_right _ (List.mem_singleton.mpr rfl))
      exact fin C D fp s₂ s4 H2 H3 _ σ3 items ys I2 f2 I4 ⟨n0, e4⟩ nD4 (hDD ▸ newD) hDC rv3 hz qn
    · refine thn (T.item (cxC X scope cl N' C fp pins s₂ H2) rfl rfl rfl hc i _ s3 σ3 H3 (fun _ _ => False) I3p (statX one fr3) st3 go) fun r s4 ⟨u, hr, h4⟩ => ?_
      subst hr
      refine thn h4 fun _ s5 ⟨x, H5, I5, r5, y5, st5, fr5⟩ => ?_
      have I5' := I5.pinned (statX one fr5) (T.obj _ _ st5)
      refine thn (hg C fp pins s₂ H2 _ s5 σ3 H5 x u _ I5' r5 (step x H5 y5)) fun _ s6 ⟨σ6, H6, I6, q6⟩ => ?_
      refine thn (ht C fp pins s₂ H2 _ s6 σ6 H6 _ I6 q6) fun b s7 ⟨H7, I7, q7⟩ => ?_
      have back : ∀ {H8 : Hp} {s8 : Shared}, Inv (cxC X scope cl N' C fp pins s₂ H2) ([(D, ({ cls := .type "list", data := .seq items n0 } : Obj))] ++ pinsAt fp s5.heap) σ6 H8 s8 →
          Inv (cxC X scope cl N' C fp pins s₂ H2) [] σ6 H8 s8 ∧ tn (i + 1) s8.heap ∧ (∀ b ∈ fp, H8 b = none) ∧ s8.heap.PlainList D items ∧ H8 D = none := fun {H8 s8} I8 => by
        refine ⟨I8.pins_of (fun p hp => nomatch hp), T.keep _ _ _ st5 fun b hb o e => (I8.pin (b, o) (List.mem_append_right _ (List.mem_append_right _ (mem_pinsAt hb e)))).1, fun b hb => ?_, ?_, ?_⟩
        · obtain ⟨o, e, d⟩ := T.obj _ _ st5 b hb
          exact (I8.pin (b, o) (List.mem_append_right _ (List.mem_append_right _ (mem_pinsAt hb e)))).2.1
        · exact ⟨n0, (I8.pin _ (List.mem_append_right _ (List.mem_append_left _ (List.mem_singleton.mpr rfl)))).1⟩
        · exact (I8.pin _ (List.mem_append_right _ (List.mem_append_left _ (List.mem_singleton.mpr rfl)))).2.1
      cases b with
      | false =>
        rw [if_neg Bool.false_ne_true] at q7
        obtain ⟨m', hm, w7⟩ := q7
        obtain ⟨J1, J2, J3, J4, J5⟩ := back I7
        rw [if_neg Bool.false_ne_true]
        exact ⟨m', hm, i + 1, σ6, ys, items, H7, J1, J2, J3, J4, rv3, J5, w7⟩
      | true =>
        rw [if_pos rfl] at q7
        rw [if_pos rfl]
        refine thn (he C fp pins s₂ H2 _ s7 σ6 H7 _ I7 q7) fun v s8 ⟨y, H8, I8, r8, m', hm, w8⟩ => ?_
        obtain ⟨J1, J2, J3, J4, J5⟩ := back I8
        have hit : items.size ≤ sizeLine := by
          have e : ys.length = items.size := by simpa using rv3.length
          omega
        refine wpAny_list_append_plain (hsz := hit) J4 fun h9 hl9 hs9 => ?_
        have nc : ∀ y c, cl.lookup y = some c → c ≠ D := fun y c e z => by
          obtain ⟨v, o, ho, _⟩ := I2.cell y c (cap.sub y c e)
          rw [z, newD] at ho; cases ho
        have np : ∀ p ∈ (X.pn ++ pins) ++ [], p.1 ≠ D := fun p hp z => by
          rw [List.append_nil] at hp
          have e := (I2.pin p hp).1
          rw [z, newD] at e; cases e
        have J9 : Inv (cxC X scope cl N' C fp pins s₂ H2) [] σ6 H8 { s8 with heap := h9 } := J1.turned (it := D) (t' := s8.toks) (fun b o hb e => hs9.extBut b o hb e) J5 hDC (.inr (Nat.le_of_eq hDD)) nc np
        refine ⟨m', hm, i + 1, σ6, ys ++ [y], items.push v, H8, J9, T.keep _ _ _ J2 fun b hb o e => hs9.extBut b o (fpD b hb) e, J3, hl9, ?_, J5, w8⟩
        rw [Array.toList_push]
        exact rv3.append (.cons r8 .nil)
  have I0 : Inv (cxC X scope cl N' C fp pins s₂ H2) [] (capSt caps σ) H2 { s₂ with heap := h₁, toks := s₂.toks + ([] : List (Str × Value)).length } :=
    inv_comp I2 f2 (fun b hb => hDD ▸ hfp b hb) hkind cap (by rw [hDD]; exact hCle) rfl I2.bare old hns₁ hN hcap
  have st0 : tn 0 h₁ := T.keep _ _ _ st2 fun b _ o e => old b o e
  have loop : ∀ s₃ : Shared, s₃ = { s₂ with heap := h₁, toks := s₂.toks + ([] : List (Str × Value)).length } →
      codeAny (model X.prog X.w) X.A (.compLoop (.ListComp elt [⟨tg, iter, ifs, 0⟩] scope pos) 0 (.ref it) (.ref D) (compEnvC scope cl C X.env)) (compPost (model X.prog X.w) X.A X.xe use QQ (.ref D) C) s₃ := by
    rintro s₃ rfl
    exact compLoop_own _ ht' m0 ⟨0, _, [], #[], H2, I0, st0, fun b hb => (f2 b hb).1, hacc, .nil, nD2, w0⟩
  exact codeAny_compStart_list (loop _ rfl) (T.self X.A 0 _ _ _ st0 (loop _ rfl))
theorem pe_compH {ex : Addr} {X : Cx} {tg elt iter : Expr} {ifs : List Expr} {scope : Scope} {pos : Pos} {wi : TI} {g : TG} {tt : TT} {te : TE} {cl : List (Str × Addr)} (N' : List Str) (caps : List (Option Nat)) (hc : X.A.handled = some (.ref ex)) (hi : PIH ex X tg iter wi)
    (hg : ∀ C fp pins s2 H2, PG (cxC X scope cl N' C fp pins s2 H2) tg g) (ht : ∀ C fp pins s2 H2, PIfs (cxC X scope cl N' C fp pins s2 H2) ifs tt) (he : ∀ C fp pins s2 H2, PE (cxC X scope cl N' C fp pins s2 H2) elt te)
    (cap : CapOk X scope cl) (hcell : ∀ y ∈ scope.names, y.2 ≠ .cell) (hkind : scope.kind = .function) (hnames : ∀ y ∈ scope.names, y.2 = .local → scope.names.lookup y.1 = some .local) (hN : caps.length = N'.length)
    (hcap : ∀ (i j : Nat), caps[i]? = some (some j) → ∃ y : Str, N'[i]? = some y ∧ X.N[j]? = some y ∧ (relabel scope X.env).names.lookup y = some .cell ∧ X.env.scope.names.lookup y = some .cell)
    (hs : ∀ x, foldedSetIterable iter X.env x = pure x := by intro _; rfl) :
    PE X (.ListComp elt [⟨tg, iter, ifs, 0⟩] scope pos) (tComp wi g tt te caps) := by
  intro pins s σ H Q I h
  rw [eval_ListComp]
  refine comp_runH (use := none) N' caps hc hi hg ht he cap hcell hkind hnames hN hcap hs (fun C D fp s2 s4 H2 H4 pl σ' items ys I2 f2 I4 hpl nD newD hDC rv hz qn => ?_) I h
  obtain ⟨m, hn, _⟩ := I4.loc
  exact ⟨m, hn, fun h' sb => ⟨.ref D, _, comp_end I2 f2 I4 hpl nD newD hDC rv hz sb, rfl, qn D nD⟩⟩
def gTupH (K : PySem.W.Frag) (ex C : Addr) (dx : Option Addr) (n : Nat) (t : TGs) : TG := fun v σ H Q => ∃ a xs, v = .ref a ∧ SqT K H a xs ∧ xs.length = n ∧ H ex = some (xH ex C dx) ∧ t xs σ H Q
theorem pg_tupH {X : Cx} {pos : Pos} {ex C : Addr} {dx : Option Addr} {es : List Expr} {k : Nat} {t : TGs} {n : Nat} (hc : X.A.handled = some (.ref ex)) (h : PGs X es t)
    (hn : (assignEach es X.env).length = n := by rfl) (hst : (assignEach es X.env).findIdx? (·.1) = none := by rfl) : PG X (.Tuple es k pos) (gTupH X.K ex C dx n t) := by
  intro pins s σ H v u Q I r hw
  obtain ⟨a, xs, e1, hq, hl, hex, hw⟩ := hw
  subst e1
  cases r
  obtain ⟨its, rv, ht, hz⟩ := I.tuple hq
  have ht : s.heap.IsTuple a its.toArray := ht
  refine assign_Tuple_h hc (fun h' x => xh_keep (I.hok ex _ hex) fun o e => x _ o (Nat.ne_of_lt (Heap.lt_size e)) e) ht (by simp [hn, ← hl, rv.length]) hst fun h' hx => ?_
  have I1 : Inv X pins σ H { s with heap := h' } := I.kept (t' := s.toks) fun b o e => hx b o (Nat.ne_of_lt (Heap.lt_size e)) e
  exact h pins _ σ H xs _ Q I1 (by simpa using rv) hw
end L2
namespace L2
open PySem PySem.Spec PySem.Calls PyProof.Rows PySem.W Builtin Builtin.ObjectAttr
theorem FlyD.ctxN {base h : Heap} {l : List Env} {e : Addr} {c : Value} {d : Option Addr} {fl : Value} (x : FlyD base l e c d fl h) : ∃ ob, h.get? e = some ob ∧ ob.cls = c ∧ ob.dict = d ∧ ∃ vs, ob.data = .fields vs ∧ vs[2]? = some .none := by
  obtain ⟨_, _, _, o, _, vs, _, _, h1, h2, h3, h4, _, _, _, _, _, _, cx, c1, c2⟩ := x
  cases c2
  exact ⟨o, h1, h2, h3, vs, h4, c1⟩
section
variable {X : Cx} {pins : List (Addr × Obj)} {σ : St} {H H2 : Hp} {s s' : Shared} {a C Bc : Addr} {t : Option Addr} {B : Heap} {D : Ends} {xc n : Str} {np hp : Pos} {b₀ : Stmt} {suite : List Stmt} {rest : List ExceptHandler} {ts : TS} {i : Nat}
theorem handle_asH (I : Inv X pins σ H s) (hst : X.stack = X.env :: X.outer) (hf : X.env.frame = some X.env.locals) (os : s'.os = s.os) (bare : AllBare s'.gens)
    (clo : ∀ h'' : Heap, B.StaysIn h'' → s'.heap.UpToSlots h'' → Un (frs X.stack) [] H H2 s.heap h'' ∧ HOk X.prog X.w H2 h'') (fly : FlyD B X.stack a (.ref C) t .none s'.heap) (na : H2 a = none) (nw : s.heap.get? a = none)
    (hg : Gl X xc) (hcl : X.mg xc = some (.ref Bc)) (hm : PySem.W.exmOne X.K (.ref C) (.ref Bc) = some true) (hs : PSs (X.hnd a) (b₀ :: suite) ts) (hN : X.N.Nodup) (hi : X.N[i]? = some n) (hloc : X.env.scope.names.lookup n = some .local)
    (q : ts (D.gone i) (σ.set i (some (.ref a))) (upd H2 a (xH a C t))) (hdb : (xc == ("__debug__" : Str)) = false := by decide) :
    wpAny (model X.prog X.w) X.A (noteFrame (.ref a) X.env) (fun _ s₂ => wpAny (model X.prog X.w) X.A (setFlight (.ref a) none) (fun _ s₃ =>
      wpAny (model X.prog X.w) X.A (handleBy (.ref a) X.env (.ExceptHandler (some (.Name xc np)) (some n) (b₀ :: suite) hp :: rest)) (SP X pins D) X.xe s₃) X.xe s₂) X.xe s' := by
  have hfr : X.A.frames = some (X.env :: X.outer) := by rw [← hst]; exact I.ok.frames
  have fly' : FlyD B (X.env :: X.outer) a (.ref C) t .none s'.heap := by rw [← hst]; exact fly
  refine note_next hfr hf fly' fun h4 held4 up4 => ?_
  refine fl_none (s := { s' with heap := h4 }) held4 fun h5 fly5 up5 => ?_
  have J5 : Inv X pins σ H2 { s' with heap := h5 } := inv_behind I os bare (clo h5 fly5.1 (up4.trans up5))
  obtain ⟨ob, hob, hobc, _⟩ := fly5.there
  have LT : PySem.W.Looks (model X.prog X.w) h5 (typeOf (.ref a)) (.ref C) := hobc ▸ (PySem.W.Looks.ld hob).andThen .now
  refine wpAny_handleBy_cons (codeAny_handlers_test (ld_glob (X := X.hnd a) (J5.hnd a) hg hcl ?_ hdb)) (by intro q; cases q)
  refine PySem.W.exm_one (K := X.K) J5.kIn LT hm _ _ _ _ (fun _ _ e => e) ?_
  refine codeAny_handlers_suite_as ?_
  refine fl_none (s := { s' with heap := h5 }) fly5 fun h6 fly6 up6 => ?_
  obtain ⟨ob6, hob6, hobc6, hobd6, vs6, hobv6, ctx6⟩ := fly6.ctxN
  have J7 : Inv X pins σ (upd H2 a (xH a C t)) { s' with heap := h6 } := inv_caughtG I os bare (clo h6 fly6.1 ((up4.trans up5).trans up6)) na nw ⟨ob6, vs6, hob6, hobc6, hobd6, hobv6, ctx6⟩ ⟨ob6, hob6⟩ (fun _ _ z k => z.stay k)
  refine store_ok (X := X.hnd a) (J7.hnd a) hN hi (.inl hloc) (show RelV (.ref a) (Value.ref a) from rfl) (fun s8 J8 => ?_) (.inr hloc)
  refine wpAny_mono (hs pins s8 _ _ (D.gone i) J8 q) (fun f s9 hq => ?_) (fun x s9 z => z.elim)
  cases f with
  | next =>
    obtain ⟨σ', H', J, q⟩ := hq
    exact gone_ok (J.unhnd I.ok) hN hi hloc fun s10 J10 => ⟨_, _, J10, q⟩
  | ret u =>
    obtain ⟨v, σ', H', J, r, q⟩ := hq
    exact gone_ok (J.unhnd I.ok) hN hi hloc fun s10 J10 => ⟨v, _, _, J10, r, q⟩
  | brk =>
    obtain ⟨σ', H', J, q⟩ := hq
    exact gone_ok (J.unhnd I.ok) hN hi hloc fun s10 J10 => ⟨_, _, J10, q⟩
  | cont =>
    obtain ⟨σ', H', J, q⟩ := hq
    exact gone_ok (J.unhnd I.ok) hN hi hloc fun s10 J10 => ⟨_, _, J10, q⟩
end
def XTrH (K : PySem.W.Frag) (Bc : Addr) (D : Ends) (σ : St) (i : Nat) (ts : Addr → TS) : XK := fun c d H2 => ∃ C, c = .ref C ∧ PySem.W.exmOne K (.ref C) (.ref Bc) = some true ∧ ∀ a, H2 a = none → ts a (D.gone i) (σ.set i (some (.ref a))) (upd H2 a (xH a C d))
section
variable {X : Cx} {xc n : Str} {pos np hp : Pos} {Bc : Addr} {b₀ : Stmt} {suite : List Stmt} {ts : Addr → TS} {i : Nat}
theorem ps_tryGH {body : List Stmt} {tb : TBd} (hb : PTB X body tb) (hst : X.stack = X.env :: X.outer) (hf : X.env.frame = some X.env.locals)
    (hcl : X.mg xc = some (.ref Bc)) (hs : ∀ a, PSs (X.hnd a) (b₀ :: suite) (ts a)) (hN : X.N.Nodup) (hi : X.N[i]? = some n) (hloc : X.env.scope.names.lookup n = some .local) (hgc : Gl X xc := by rfl) (hdc : (xc == ("__debug__" : Str)) = false := by decide) :
    PS X (.Try body [.ExceptHandler (some (.Name xc np)) (some n) (b₀ :: suite) hp] [] [] pos) (fun D σ H => tb (XTrH X.K Bc D σ i ts) (fun H2 => D.nx σ H2) σ H) := by
  intro pins s σ H D I h
  refine wpAny_Try_except (wpAny_mono (hb pins s σ H _ _ I h) (fun f s1 hq => ?_) (fun e s' hx => ?_))
  · obtain ⟨rfl, H2, I2, q⟩ := hq
    exact wpAny_execs_nil ⟨σ, H2, I2, q⟩
  · obtain ⟨H1, s1, I1, a, C, d, H', B, rfl, os, bare, clo, fly, na, nw, C', eC, hmm, q2⟩ := hx
    cases eC
    exact handle_asH I1 hst hf os bare clo fly na nw hgc hcl hmm (hs a) hN hi hloc (q2 a na) hdc
end
structure FnH (P : Program) (w : World) (K : PySem.W.Frag) (mg : Str → Option Value) (base : Heap) (k : Nat) (f : Addr) (fd : FuncData) (ps : List Str) (sp : Addr → Sp) : Prop where
  len : ∀ ex vs H Q E, sp ex vs H Q E → vs.length = ps.length
  run : ∀ (ex : Addr) (A : Around) (outer : List Env) (s : Shared) (H : Hp) (args : Args) (us : List Value) (vs : List V) (Q : VK) (E : XK), A.handled = some (.ref ex) → RoomB false k A → Env0 P w K mg base A outer s H → BindsTo s fd args (ps.zip us) → Vals vs us → sp ex vs H Q E →
    codeAny (model P w) A (.call (.ref f) args) (CR (CX1 P w) outer P w H s Q E) s
theorem fnH_of {P : Program} {w : World} {K : PySem.W.Frag} {mg : Str → Option Value} {base : Heap} {k : Nat} {f : Addr} {name qual : Str} {params : Arguments} {body : List Stmt} {scope : Scope} {dV kV doc pm cdv ct oc : Value} {an od : Option Addr}
    {osl : Array (Option Value)} {N ps : List Str} {sp : Addr → Sp} (lk : K.lookup f = some ⟨oc, od, .func (PySem.W.fnOf name qual params body scope dV kV doc pm an cdv ct), osl⟩) (hcd : PySem.W.codeIn K cdv qual = true) (S : FnScope N ps scope)
    (len : ∀ ex vs H Q E, sp ex vs H Q E → vs.length = ps.length)
    (hbody : ∀ (ex : Addr) (A : Around) (outer : List Env) (s : Shared) (H : Hp) (vs : List V) (Q : VK) (E : XK), A.handled = some (.ref ex) → RoomB false k (A.deeper (envOfC qual scope s.heap.objs.size f cdv)) → sp ex vs H Q E →
      ∃ t, PSs (cxB false P w K mg base N qual scope f cdv A outer s H E) body t ∧ t { nx := fun _ H' => Q .non H', rt := Q } (start N vs) H) :
    FnH P w K mg base (k + 1) f (PySem.W.fnOf name qual params body scope dV kV doc pm an cdv ct) ps sp := by
  refine ⟨len, fun ex A outer s H args us vs Q E hh hr e0 hb r hsp => ?_⟩
  have hl := len _ _ _ _ _ hsp
  have KX : K.In s.heap := e0.mod.kin.keeps fun b o e => (e0.bs b o e).1
  have lim : s.heap.NoLimit := e0.mod.nolimit.keeps fun b o e => (e0.bs b o e).1
  have hkind : ∀ y ∈ ps.zip us, scope.names.lookup y.1 = some .local ∨ (scope.names.lookup y.1 = some .cell ∧ ((cellsFrom (s.heap.objs.size + 1) scope.names []).lookup y.1).isSome = true) := fun ⟨n, v⟩ hy => by
    rcases S.par n (List.of_mem_zip hy).1 with q | q
    · exact .inl q
    · exact .inr ⟨q, PySem.W.cellsFrom_some _ _ _ (.inl q)⟩
  refine codeAny_call_function hr.depth (KX _ _ lk) rfl S.co S.gen rfl (PySem.W.codeRec_of KX hcd) (hb _ _ _ _ ?_)
  refine wpAny_newFunctionEnv_cells S.kind hkind fun env he s1 x => ?_
  subst he
  refine ⟨lim.keeps x.toInCall.keep, codeAny_func ?_⟩
  obtain ⟨t, ht, hq⟩ := hbody ex A outer s H vs Q E hh (hr.deeper _) hsp
  have I : Inv (cxB false P w K mg base N qual scope f cdv A outer s H E) [] (start N vs) H s1 := inv_startB S (fun z => nomatch z) e0 hl r x
  refine wpAny_mono (ht [] s1 (start N vs) H _ I hq) (fun fl s' hs => ?_) fun e s' hs => hs
  have fin : ∀ {σ' : St} {H' : Hp} {v : V} {u : Value}, Inv (cxB false P w K mg base N qual scope f cdv A outer s H E) [] σ' H' s' → RelV v u → Q v H' → CE outer P w H s Q u s' :=
    fun {σ' H' v u} J rv q => ⟨v, H', J.os, J.bare, J.base, J.hok, rv, q⟩
  cases fl with
  | ret u =>
    obtain ⟨v, σ', H', J, rv, q⟩ := hs
    exact fin J rv q
  | next =>
    obtain ⟨σ', H', J, q⟩ := hs
    exact fin (v := V.non) (u := Value.none) J rfl q
  | brk =>
    obtain ⟨_, _, _, q⟩ := hs
    exact False.elim q
  | cont =>
    obtain ⟨_, _, _, q⟩ := hs
    exact False.elim q
structure CalH (P : Program) (w : World) (K : PySem.W.Frag) (mg : Str → Option Value) (base : Heap) (k : Nat) (x : Str) (ps : List Str) (sp : Addr → Sp) : Prop where
  ex : ∃ (f : Addr) (fd : FuncData), FnH P w K mg base k f fd ps sp ∧ mg x = some (.ref f) ∧ PySem.W.keepIn K (.ref f) = true ∧ Binds K fd ps []
theorem TopFn.calH {P : Program} {w : World} {K : PySem.W.Frag} {mg : Str → Option Value} {base : Heap} {x : Str} {st : Stmt} {N ps : List Str} {k : Nat} {sp : Addr → Sp} (T : TopFn K mg x st) (S : FnScope N ps (defScope st))
    (hb : ∀ (kV doc pm : Value) (an : Option Addr) (cdv ct : Value) (us : List Value), us.length = ps.length → bindArgs (PySem.W.fnOf x x (defArgs st) (defBody st) (defScope st) .none kV doc pm an cdv ct) ⟨us, []⟩ = pure (ps.zip us))
    (len : ∀ ex vs H Q E, sp ex vs H Q E → vs.length = ps.length)
    (hbody : ∀ (f : Addr) (cdv : Value) (ex : Addr) (A : Around) (outer : List Env) (s : Shared) (H : Hp) (vs : List V) (Q : VK) (E : XK), A.handled = some (.ref ex) → RoomB false k (A.deeper (envOfC x (defScope st) s.heap.objs.size f cdv)) → sp ex vs H Q E →
      ∃ t, PSs (cxB false P w K mg base N x (defScope st) f cdv A outer s H E) (defBody st) t ∧ t { nx := fun _ H' => Q .non H', rt := Q } (start N vs) H) : CalH P w K mg base (k + 1) x ps sp := by
  obtain ⟨f, fd, F, hm⟩ := T.ex
  obtain ⟨oc, od, kV, doc, pm, an, cdv, ct, osl, rfl, l, cd⟩ := id F.ex
  exact ⟨f, _, fnH_of l cd S len (hbody f cdv), hm, F.kp, F.binds hb⟩
section
variable {X : Cx} {k : Nat} {ps : List Str} {sp : Addr → Sp} {x : Str} {p pos : Pos} {e : Expr} {es : List Expr} {t : TA} {E : XK} {ex : Addr}
theorem pe_cH (hh : X.A.handled = some (.ref ex)) (C : CalH X.prog X.w X.K X.mg X.base k x ps sp) (hr : RoomB false k X.A) (hx : Passes (CX1 X.prog X.w) X E) (ha : PA X (e :: es) t) (hg : Gl X x := by rfl) (hdb : (x == ("__debug__" : Str)) = false := by decide)
    (he : starEach (e :: es) X.env = (false, eval e X.env) :: starEach es X.env := by rfl) (hpl : (backTo pos (starEach es X.env)).any (·.1) = false := by rfl) :
    PE X (.Call (.Name x p) (e :: es) [] pos) (tCall (sp ex) [] E t) := by
  obtain ⟨f, fd, F, hm, hk, hb⟩ := C.ex
  intro pins s σ H Q I h
  refine wpAny_Call_Name_kw (ld_glob I hg hm ?_ hdb)
  refine PySem.W.callWith_K (h₀ := X.base) I.ok.mod.kin hk (thn (ha pos pins s σ H _ I h) fun us s1 ⟨vs, H1, I1, r, q⟩ => ⟨I1.kIn, ?_⟩) he hpl
  have r2 : Vals (vs ++ []) (us ++ []) := r.append .nil
  have hl : (us ++ []).length = ps.length := by rw [← r2.length]; exact F.len _ _ _ _ _ q
  refine wpAny_call (codeAny_mono (F.run ex X.A X.stack s1 H1 ⟨us, []⟩ (us ++ []) (vs ++ []) Q E hh hr I1.env0 (hb s1 us I1.kIn hl) r2 q) fun r s' hq => ?_)
  cases r with
  | error e => exact hx pins σ H1 s1 e s' I1 hq
  | ok fl =>
    cases fl with
    | ret u => exact I1.after hq
    | next => exact False.elim hq
    | brk => exact False.elim hq
    | cont => exact False.elim hq
end
section
variable {X : Cx}
theorem call_isiH1 : CallR X (.builtin "isinstance") (fun xs H Q => ∃ a C d v c b, xs = [.ref a, v] ∧ H a = some (xH a C d) ∧ ExcK X.K C ∧ RelV v c ∧ kitOne X.K (.ref C) c = some b ∧ Q (.bl b) H) := by
  intro pins s σ H xs us Q I r h
  obtain ⟨a, C, d, v, c, b, rfl, ha, F, rc, e, q⟩ := h
  obtain ⟨u, v', rfl, ru, rv⟩ := vals2 r
  cases (show u = Value.ref a from ru)
  have ec : v' = c := by
    cases v with
    | ref D => exact (show v' = .ref D from rv).trans (show c = .ref D from rc).symm
    | ty T => exact (show v' = .type T from rv).trans (show c = .type T from rc).symm
    | non => exact (show v' = .none from rv).trans (show c = .none from rc).symm
    | bl z => exact (show v' = .bool z from rv).trans (show c = .bool z from rc).symm
    | int i => obtain ⟨t, rfl⟩ := rc; exact absurd e (by unfold kitOne kitCls; simp)
    | str i => obtain ⟨t, rfl⟩ := rc; exact absurd e (by unfold kitOne kitCls; simp)
    | byt i => obtain ⟨t, rfl⟩ := rc; exact absurd e (by unfold kitOne kitCls; simp)
    | flt i => obtain ⟨t, rfl⟩ := rc; exact absurd e (by unfold kitOne kitCls; simp)
  subst ec
  have ob : ObjOk X.prog X.w H s.heap a (xH a C d) := I.hok a _ ha
  exact kia_one (kitx_exc F) I.kIn (XH.at ob.1) e (fun z => nomatch z) fun tk => ⟨.bl b, H, I.tok _, rfl, q⟩
end
section
variable {X : Cx} {e : Expr} {ta : TE} {f : Str} {pos : Pos}
def tXatH (K : PySem.W.Frag) (ta : TE) (f : Str) : TE := fun σ H Q => ta σ H fun x H1 => ∃ a C dx fs v, x = .ref a ∧ H1 a = some (xH a C (some dx)) ∧ H1 dx = some (.xd fs) ∧ ExcK K C ∧ PySem.W.hasDictIn K C = true ∧ NoAttr K C f ∧ fs.lookup f = some v ∧ Q v H1
theorem pe_xatH (he : PE X e ta) (hb : attributeBase e f X.env (eval e X.env) = eval e X.env := by rfl) : PE X (.Attribute e f pos) (tXatH X.K ta f) := by
  intro pins s σ H Q I h
  refine attr_of hb (thn (he pins s σ H _ I h) fun u s1 ⟨x, H1, I1, rx, a, C, dx, fs, v, ex, ea, ed, F, hd, n, l, q⟩ => ?_)
  subst ex
  obtain rfl : u = Value.ref a := rx
  obtain ⟨⟨o, vs, ho, hc, hdd, hdat, _⟩, _, _⟩ := (show ObjOk X.prog X.w H1 s1.heap a (xH a C (some dx)) from I1.hok a _ ea)
  obtain ⟨mA, ns, r⟩ := (show ObjOk X.prog X.w H1 s1.heap dx (.xd fs) from I1.hok dx _ ed)
  obtain ⟨od, hod, hl⟩ := lookIn_ns ns
  obtain ⟨u, hu, ru⟩ := RelO.some_of (v := v) (o := mA f) (by rw [← l]; exact r f)
  have J : InstAt s1.heap a o C (some od) := ⟨ho, hc, by obtain ⟨c0, d0, dt0, sl0⟩ := o; cases (show dt0 = .fields vs from hdat); rfl, by rw [hdd]; exact hod⟩
  exact xfld_get I1.kIn F J (findObj_own hd n rfl (by rw [hl, hu])) (handed_of ru) ⟨v, H1, I1.tok _, ru, q⟩
theorem call_isiH1K {K : PySem.W.Frag} (hK : X.K = K := by rfl) : CallR X (.builtin "isinstance") (fun xs H Q => ∃ a C d v c b, xs = [.ref a, v] ∧ H a = some (xH a C d) ∧ ExcK K C ∧ RelV v c ∧ kitOne K (.ref C) c = some b ∧ Q (.bl b) H) := hK ▸ call_isiH1
theorem pe_xatHK {K : PySem.W.Frag} (he : PE X e ta) (hb : attributeBase e f X.env (eval e X.env) = eval e X.env := by rfl) (hK : X.K = K := by rfl) : PE X (.Attribute e f pos) (tXatH K ta f) := hK ▸ pe_xatH he hb
end
end L2
namespace L2
open PySem PySem.Spec PyProof.Rows PySem.Builtin
theorem comp_zipH {K : PySem.W.Frag} {ex C : Addr} {dx : Option Addr} {a b : Addr} {xs zs : List V} {g : TG} {tt : TT} {te : TE} {Q : VK} {σ : St} {H : Hp} (Pv : Nat → St → List V → Hp → Prop) (le : xs.length ≤ zs.length) (h0 : Pv 0 σ [] H) (hz : ∀ i σ ys H, i ≤ xs.length → Pv i σ ys H → ys.length ≤ sizeLine ∧ SqL K H a xs ∧ SqL K H b zs ∧ H ex = some (xH ex C dx))
    (hs : ∀ i x z σ ys H p, xs[i]? = some x → zs[i]? = some z → Pv i σ ys H → H p = none → g (.ref p) σ (upd H p (.tup [x, z])) fun σ2 H2 => tt σ2 H2 fun b H3 => if b = true then te σ2 H3 fun y H4 => Nx xs.length Pv i σ2 (ys ++ [y]) H4 else Nx xs.length Pv i σ2 ys H3)
    (hd : ∀ σ ys H p, Pv xs.length σ ys H → H p = none → Q (.ref p) (upd H p (.lst ys))) : tCompB g tt te (ItzH K ex C dx a b) σ H Q := by
  refine ⟨fun i m σ ys H => m = xs.length - i ∧ i ≤ xs.length ∧ Pv i σ ys H, ⟨xs.length, by simp, Nat.zero_le _, h0⟩, ?_⟩
  rintro i m σ' ys H ⟨rfl, hi, p⟩
  obtain ⟨z, q1, q2, q3⟩ := hz i σ' ys H hi p
  refine ⟨z, ?_⟩
  by_cases hlt : i < xs.length
  · have hlt2 : i < zs.length := Nat.lt_of_lt_of_le hlt le
    refine .inr ⟨⟨xs, zs, xs[i], zs[i], q1, q2, by simp [hlt], by simp [hlt2]⟩, fun x H' y => ?_⟩
    obtain ⟨r, u, v, n, rfl, y1, y2, rfl⟩ := y
    exact hs i u v σ' ys H r (y1 xs q1) (y2 zs q2) p n
  · have e : i = xs.length := by omega
    subst e
    exact .inl ⟨⟨xs, q1, Nat.le_refl _, q3⟩, fun r n => hd σ' ys _ r p n⟩
theorem pg_tupHK {X : Cx} {pos : Pos} {ex C : Addr} {dx : Option Addr} {es : List Expr} {k : Nat} {t : TGs} {n : Nat} {K : PySem.W.Frag} (h : PGs X es t) (hc : X.A.handled = some (.ref ex) := by assumption)
    (hn : (assignEach es X.env).length = n := by rfl) (hst : (assignEach es X.env).findIdx? (·.1) = none := by rfl) (hK : X.K = K := by rfl) : PG X (.Tuple es k pos) (gTupH K ex C dx n t) := hK ▸ pg_tupH hc h hn hst
end L2
namespace Lib
open PySem L2 Fr Op
structure LpU (x : Lamp) : Prop where
  h : Bd 12 x.h
  s : Bd 12 x.s
  f : Bd 184 x.f
  l : Bd 184 x.l
  o : ¬ x.l < x.f
theorem spr_bdU {t : Tab} {x : Lamp} (ht : Tb 154 t) (hx : LpU x) : Bd 321 (spread t x.s).1 ∧ Bd 321 (spread t x.s).2 := ⟨((ht.a.mul hx.s).add ht.b).mono (by decide), ((ht.c.mul hx.s).add ht.d).mono (by decide)⟩
theorem grow_bdU {t : Tab} {x : Lamp} (ht : Tb 154 t) (hx : LpU x) : Bd 690 (growing t x) := ((spr_bdU ht hx).2.mul (hx.l.sub hx.f)).mono (by decide)
theorem mid_bdU {t : Tab} {x : Lamp} (ht : Tb 154 t) (hx : LpU x) (h : growing t x ≠ 0) : Bd 644 (mid t x.s) := by
  have hq : (spread t x.s).2 ≠ 0 := fun z => h (by unfold growing; rw [z, Rat.zero_mul])
  exact ((bd_zero 1 (by decide)).sub ((spr_bdU ht hx).1.div (spr_bdU ht hx).2 hq)).mono (by decide)
theorem reach_bdU {t : Tab} {x : Lamp} {m : Rat} (ht : Tb 154 t) (hx : LpU x) (h : growing t x ≠ 0) (bm : Bd 40 m) : Bd 730 (reach t x m) := (bm.div (ab_bd (grow_bdU ht hx)) fun z => h (ab_zero.mp z)).mono (by decide)
theorem blr_bdU {t : Tab} {x : Lamp} {T : Rat} {k : Nat} (ht : Tb 154 t) (hx : LpU x) (hT : Bd k T) : Bd (1012 + k) (blr t x T) := by
  rw [blr_eq]
  exact ((ab_bd ((spr_bdU ht hx).1.add (hT.mul (spr_bdU ht hx).2))).mul (ab_bd (hx.l.sub hx.f))).mono (by omega)
def RSharpU : List PyData → PyData → Prop := fun ds d => ∃ ps x m, ds = [benchD ps, pairD x.h x.s, pairD x.f x.l, frD m] ∧ Good 18 ps ∧ ps.length ≤ 8 ∧ LpU x ∧ 0 ≤ m ∧ Bd 40 m ∧ d = sharpD (tabOf ps) x m
theorem lpu_of {ps : List Pc} {f g h s : Rat} (gd : Good 18 ps) (n : ps.length ≤ 8) (bf : Bd 12 f) (bg : Bd 12 g) (o : ¬ g < f) (bh : Bd 12 h) (bs : Bd 12 s) {f' g' : Rat} (e : slOf (lims ps) h s f g = some (f', g')) : LpU ⟨h, s, f', g'⟩ := by
  obtain ⟨h1, h2, h3⟩ := of_ends e
  have q : ∀ x ∈ quots (lims ps) h s, Bd 184 x := fun x hx => (quots_fd (m := 18) (M := 18) (fun p hp => fd_of_bd (gd.bd p hp)) bh bs x hx).mono (by
    have : (ps.length - 1) * (18 + 2) ≤ 7 * 20 := Nat.mul_le_mul (by omega) (Nat.le_refl _)
    omega)
  refine ⟨bh, bs, ?_, ?_, h3 o⟩
  · rcases List.mem_cons.mp h1 with rfl | hx
    · exact bf.mono (by decide)
    · exact q _ hx
  · rcases List.mem_cons.mp h2 with rfl | hx
    · exact bg.mono (by decide)
    · exact q _ hx
theorem lpu_b {x : Lamp} (h : LpB 12 x) : LpU x := ⟨h.h, h.s, h.f.mono (by decide), h.l.mono (by decide), h.o⟩
def spBothE (A : Addr) : Sp := fun vs H Q _ => ∃ v, vs = [.ref A, v] ∧ Q v H
def spFA (K : PySem.W.Frag) : Sp := fun vs H Q _ => ∃ (x1 : V) (ll : Addr) (x3 x4 x5 : V) (ps : List Pc) (ls : List (Rat × Rat)) (f g m : Rat), vs = [x1, .ref ll, x3, x4, x5] ∧ DV K H x1 (benchD ps) ∧ DV K H (.ref ll) (.list (ls.map prD)) ∧ DV K H x3 (frD f) ∧ DV K H x4 (frD g) ∧ DV K H x5 (frD m) ∧ Good 18 ps ∧ ps.length ≤ 8 ∧ Zs ls ∧ ls.length ≤ 1 ∧ Bd 12 f ∧ Bd 12 g ∧ ¬ g < f ∧ 0 ≤ m ∧ Bd 13 m ∧ ∀ w H', Same H H' → Q w H'
def spStrN (K : PySem.W.Frag) (C : Addr) : Sp := fun vs H _ E => ∃ (x y : V) (d e : PyData), vs = [x, y] ∧ DV K H x d ∧ DV K H y e ∧ StrB d e false ∧ ∀ H', Same H H' → E (.ref C) none H'
def Bad50 (K : PySem.W.Frag) (N C : Addr) (H : Hp) (v x y : V) (E : XK) : Prop := (∃ d o, DV K H v d ∧ RefB d o ∧ RaisedAt H N o E) ∨ ∃ (ps : List Pc) (d e : PyData), DV K H v (benchD ps) ∧ DV K H x d ∧ DV K H y e ∧ Good 18 ps ∧ ps.length ≤ 8 ∧ StrB d e false ∧ ∀ H', Same H H' → E (.ref C) none H'
def spSl50 (K : PySem.W.Frag) (N C : Addr) : Sp := fun vs H _ E => ∃ (v l x y : V), vs = [v, l, x, y] ∧ Bad50 K N C H v x y E
def spFA50 (K : PySem.W.Frag) (N C : Addr) : Sp := fun vs H _ E => ∃ (v l x y m : V), vs = [v, l, x, y, m] ∧ Bad50 K N C H v x y E
def spBadB4 (K : PySem.W.Frag) (C : Addr) : Sp := fun vs H _ E => ∃ v y m n d o, vs = [v, y, m, n] ∧ DV K H v d ∧ RefB d o ∧ RaisedAt H C o E
def spNames (N B : Addr) : Addr → Sp := fun ex vs H Q _ => ∃ (d : Option Addr) (z : Str), vs = [.ref ex] ∧ ((H ex = some (xH ex N d) ∧ z = "bench") ∨ (H ex = some (xH ex B d) ∧ z = "box")) ∧ ∀ l H', Same H H' → H' l = some (.lst [.str z, .str "value"]) → Q (.ref l) H'
def spTried (K : PySem.W.Frag) : Sp := fun vs H Q _ => ∃ (k : Int) (bv lv fv gv : V), vs = [.int k, bv, lv, fv, gv] ∧
  ((∃ d o, DV K H bv d ∧ RefB d o ∧ ∀ w H', Same H H' → DV K H' w (.list [.list [.str "bench", .str "value"], optD o]) → Q w H') ∨
   (∃ (ps : List Pc) (d e : PyData), (k = 0 ∨ k = 1 ∨ k = 2) ∧ DV K H bv (benchD ps) ∧ DV K H fv d ∧ DV K H gv e ∧ Good 18 ps ∧ ps.length ≤ 8 ∧ StrB d e false ∧ ∀ w H', Same H H' → DV K H' w (.list [.list [.str "box", .str "value"], .int 0]) → Q w H') ∨
   ∃ (ps : List Pc) (x : Lamp), DV K H bv (benchD ps) ∧ DV K H lv (pairD x.h x.s) ∧ DV K H fv (frD x.f) ∧ DV K H gv (frD x.l) ∧ Good 18 ps ∧ ps.length ≤ 8 ∧ LpB 12 x ∧ ∀ w H', Same H H' → DV K H' w (.list [.none, .int 0]) → Q w H')
def spBadSl (K : PySem.W.Frag) : Sp := fun vs H Q _ => ∃ (v : V) (x : Lamp) (z : Int), vs = [v, .int z] ∧ DV K H v (lampD x) ∧ LpB 12 x ∧ ∀ (l : Addr) (a b : V) (d e : PyData) (H' : Hp), Same H H' → H' l = some (.lst [a, b]) → DV K H' a d → DV K H' b e → StrB d e false → Q (.ref l) H'
def spBadBe (K : PySem.W.Frag) : Sp := fun vs H Q _ => ∃ (lb : Addr) (xs : List V) (ps : List Pc) (z : Int), vs = [.ref lb, .int z] ∧ H lb = some (.lst xs) ∧ DVs K H xs (ps.map pcD) ∧ Good 18 ps ∧ ps.length ≤ 8 ∧ ∀ (l : Addr) (w : V) (H' : Hp) (d : PyData) (o : Option Nat), Same H H' → H' l = some (.lst [w, atV o]) → DV K H' w d → RefB d o → Q (.ref l) H'
end Lib
namespace K50
open PySem L2 Lib Fr Op
seal PE PT PW PA PS PSs PG PGs PI PO
def top (i : Nat) : Stmt := PySem.Challenge.pw_grindbench_k50_slants_refused.main.body.getD i (.Pass ⟨0, 0, 0, 0⟩)
abbrev s_is_whole : Stmt := top 13
theorem sc_is_whole : FnScope ["thing"] ["thing"] (defScope s_is_whole) := ⟨rfl, rfl, rfl, by decide +kernel, rfl, by decide +kernel, by decide +kernel⟩
abbrev s_common_divisor : Stmt := top 14
theorem sc_common_divisor : FnScope ["one", "other", "greater", "lesser", "rest"] ["one", "other"] (defScope s_common_divisor) := ⟨rfl, rfl, rfl, by decide +kernel, rfl, by decide +kernel, by decide +kernel⟩
abbrev s_is_ratio : Stmt := top 15
theorem sc_is_ratio : FnScope ["thing", "top", "bottom"] ["thing"] (defScope s_is_ratio) := ⟨rfl, rfl, rfl, by decide +kernel, rfl, by decide +kernel, by decide +kernel⟩
abbrev s_ratio_of : Stmt := top 16
theorem sc_ratio_of : FnScope ["top", "bottom", "divisor"] ["top", "bottom"] (defScope s_ratio_of) := ⟨rfl, rfl, rfl, by decide +kernel, rfl, by decide +kernel, by decide +kernel⟩
abbrev s_sum_of : Stmt := top 17
theorem sc_sum_of : FnScope ["one", "other"] ["one", "other"] (defScope s_sum_of) := ⟨rfl, rfl, rfl, by decide +kernel, rfl, by decide +kernel, by decide +kernel⟩
abbrev s_less_by : Stmt := top 18
theorem sc_less_by : FnScope ["one", "other"] ["one", "other"] (defScope s_less_by) := ⟨rfl, rfl, rfl, by decide +kernel, rfl, by decide +kernel, by decide +kernel⟩
abbrev s_product_of : Stmt := top 19
theorem sc_product_of : FnScope ["one", "other"] ["one", "other"] (defScope s_product_of) := ⟨rfl, rfl, rfl, by decide +kernel, rfl, by decide +kernel, by decide +kernel⟩
abbrev s_quotient_of : Stmt := top 20
theorem sc_quotient_of : FnScope ["one", "other"] ["one", "other"] (defScope s_quotient_of) := ⟨rfl, rfl, rfl, by decide +kernel, rfl, by decide +kernel, by decide +kernel⟩
abbrev s_is_less : Stmt := top 21
theorem sc_is_less : FnScope ["one", "other"] ["one", "other"] (defScope s_is_less) := ⟨rfl, rfl, rfl, by decide +kernel, rfl, by decide +kernel, by decide +kernel⟩
abbrev s_is_stretch : Stmt := top 23
theorem sc_is_stretch : FnScope ["first", "last"] ["first", "last"] (defScope s_is_stretch) := ⟨rfl, rfl, rfl, by decide +kernel, rfl, by decide +kernel, by decide +kernel⟩
abbrev s_look_at_stretch : Stmt := top 24
theorem sc_look_at_stretch : FnScope ["first", "last"] ["first", "last"] (defScope s_look_at_stretch) := ⟨rfl, rfl, rfl, by decide +kernel, rfl, by decide +kernel, by decide +kernel⟩
abbrev s_is_piece : Stmt := top 34
theorem sc_is_piece : FnScope ["thing"] ["thing"] (defScope s_is_piece) := ⟨rfl, rfl, rfl, by decide +kernel, rfl, by decide +kernel, by decide +kernel⟩
abbrev s_piece_of : Stmt := top 35
theorem sc_piece_of : FnScope ["told"] ["told"] (defScope s_piece_of) := ⟨rfl, rfl, rfl, by decide +kernel, rfl, by decide +kernel, by decide +kernel⟩
abbrev s_look_at : Stmt := top 36
theorem sc_look_at : FnScope ["bench", "number", "thing"] ["bench"] (defScope s_look_at) := ⟨rfl, rfl, rfl, by decide +kernel, rfl, by decide +kernel, by decide +kernel⟩
abbrev s_is_table : Stmt := top 40
theorem sc_is_table : FnScope ["thing"] ["thing"] (defScope s_is_table) := ⟨rfl, rfl, rfl, by decide +kernel, rfl, by decide +kernel, by decide +kernel⟩
abbrev s_look_at_table : Stmt := top 41
theorem sc_look_at_table : FnScope ["table"] ["table"] (defScope s_look_at_table) := ⟨rfl, rfl, rfl, by decide +kernel, rfl, by decide +kernel, by decide +kernel⟩
abbrev s_table_of_rays : Stmt := top 42
theorem sc_table_of_rays : FnScope ["high", "slanted"] ["high", "slanted"] (defScope s_table_of_rays) := ⟨rfl, rfl, rfl, by decide +kernel, rfl, by decide +kernel, by decide +kernel⟩
abbrev s_table_of : Stmt := top 43
theorem sc_table_of : FnScope ["bench", "high", "slanted", "told", "piece"] ["bench"] (defScope s_table_of) := ⟨rfl, rfl, rfl, by decide +kernel, rfl, by decide +kernel, by decide +kernel⟩
abbrev s_made_by : Stmt := top 44
theorem sc_made_by : FnScope ["table", "ray", "height", "slant"] ["table", "ray"] (defScope s_made_by) := ⟨rfl, rfl, rfl, by decide +kernel, rfl, by decide +kernel, by decide +kernel⟩
abbrev s_limits_of : Stmt := top 46
theorem sc_limits_of : FnScope ["bench", "limits", "high", "slanted", "number", "told", "piece"] ["bench"] (defScope s_limits_of) := ⟨rfl, rfl, rfl, by decide +kernel, rfl, by decide +kernel, by decide +kernel⟩
abbrev s_in_order : Stmt := top 48
theorem sc_in_order : FnScope ["one", "other"] ["one", "other"] (defScope s_in_order) := ⟨rfl, rfl, rfl, by decide +kernel, rfl, by decide +kernel, by decide +kernel⟩
abbrev s_lesser_of : Stmt := top 49
theorem sc_lesser_of : FnScope ["one", "other"] ["one", "other"] (defScope s_lesser_of) := ⟨rfl, rfl, rfl, by decide +kernel, rfl, by decide +kernel, by decide +kernel⟩
abbrev s_greater_of : Stmt := top 50
theorem sc_greater_of : FnScope ["one", "other"] ["one", "other"] (defScope s_greater_of) := ⟨rfl, rfl, rfl, by decide +kernel, rfl, by decide +kernel, by decide +kernel⟩
abbrev s_slants_by : Stmt := top 51
theorem sc_slants_by : FnScope ["limit", "lamp", "first", "last", "steady", "rising", "low", "high", "ends"] ["limit", "lamp", "first", "last"] (defScope s_slants_by) := ⟨rfl, rfl, rfl, by decide +kernel, rfl, by decide +kernel, by decide +kernel⟩
abbrev s_slants_of : Stmt := top 52
theorem sc_slants_of : FnScope ["bench", "lamp", "first", "last", "limits", "slants", "limit"] ["bench", "lamp", "first", "last"] (defScope s_slants_of) := ⟨rfl, rfl, rfl, by decide +kernel, rfl, by decide +kernel, by decide +kernel⟩
abbrev s_height_at : Stmt := top 53
theorem sc_height_at : FnScope ["table", "lamp", "slant", "t", "ahead"] ["table", "lamp", "slant", "t"] (defScope s_height_at) := ⟨rfl, rfl, rfl, by decide +kernel, rfl, by decide +kernel, by decide +kernel⟩
abbrev s_spots_of : Stmt := top 54
theorem sc_spots_of : FnScope ["bench", "lamp", "slants", "t", "table"] ["bench", "lamp", "slants", "t"] (defScope s_spots_of) := ⟨rfl, rfl, rfl, by decide +kernel, rfl, by decide +kernel, by decide +kernel⟩
abbrev s_blur_of : Stmt := top 55
theorem sc_blur_of : FnScope ["bench", "lamp", "slants", "t", "spots"] ["bench", "lamp", "slants", "t"] (defScope s_blur_of) := ⟨rfl, rfl, rfl, by decide +kernel, rfl, by decide +kernel, by decide +kernel⟩
abbrev s_spread_of : Stmt := top 57
theorem sc_spread_of : FnScope ["table", "s", "height", "slant"] ["table", "s"] (defScope s_spread_of) := ⟨rfl, rfl, rfl, by decide +kernel, rfl, by decide +kernel, by decide +kernel⟩
abbrev s_image_of : Stmt := top 58
theorem sc_image_of : FnScope ["table", "s", "spread"] ["table", "s"] (defScope s_image_of) := ⟨rfl, rfl, rfl, by decide +kernel, rfl, by decide +kernel, by decide +kernel⟩
abbrev s_sharp_places : Stmt := top 63
theorem sc_sharp_places : FnScope ["bench", "lamp", "slants", "most", "table", "growing", "middle", "reach"] ["bench", "lamp", "slants", "most"] (defScope s_sharp_places) := ⟨rfl, rfl, rfl, by decide +kernel, rfl, by decide +kernel, by decide +kernel⟩
abbrev s_places_in_both : Stmt := top 64
theorem sc_places_in_both : FnScope ["one", "other", "start", "end"] ["one", "other"] (defScope s_places_in_both) := ⟨rfl, rfl, rfl, by decide +kernel, rfl, by decide +kernel, by decide +kernel⟩
abbrev s_sharp_for_all : Stmt := top 65
theorem sc_sharp_for_all : FnScope ["bench", "lamps", "first", "last", "most", "places", "lamp", "slants"] ["bench", "lamps", "first", "last", "most"] (defScope s_sharp_for_all) := ⟨rfl, rfl, rfl, by decide +kernel, rfl, by decide +kernel, by decide +kernel⟩
abbrev s__law_drawn : Stmt := top 68
theorem sc__law_drawn : FnScope ["_law_script", "_law_start"] ["_law_script", "_law_start"] (defScope s__law_drawn) := ⟨rfl, rfl, rfl, by decide +kernel, rfl, by decide +kernel, by decide +kernel⟩
abbrev s__law_draw : Stmt := top 69
theorem sc__law_draw : FnScope ["_law_drawn_here", "_law_many", "_law_cells", "_law_number"] ["_law_drawn_here", "_law_many"] (defScope s__law_draw) := ⟨rfl, rfl, rfl, by decide +kernel, rfl, by decide +kernel, by decide +kernel⟩
abbrev s__law_low : Stmt := top 70
theorem sc__law_low : FnScope ["_law_top", "_law_bottom", "_law_one", "_law_other"] ["_law_top", "_law_bottom"] (defScope s__law_low) := ⟨rfl, rfl, rfl, by decide +kernel, rfl, by decide +kernel, by decide +kernel⟩
abbrev s__law_under : Stmt := top 71
theorem sc__law_under : FnScope ["_law_one", "_law_other"] ["_law_one", "_law_other"] (defScope s__law_under) := ⟨rfl, rfl, rfl, by decide +kernel, rfl, by decide +kernel, by decide +kernel⟩
abbrev s__law_part : Stmt := top 72
theorem sc__law_part : FnScope ["_law_drawn_here", "_law_far", "_law_top", "_law_bottom"] ["_law_drawn_here", "_law_far"] (defScope s__law_part) := ⟨rfl, rfl, rfl, by decide +kernel, rfl, by decide +kernel, by decide +kernel⟩
abbrev s__law_piece : Stmt := top 73
theorem sc__law_piece : FnScope ["_law_drawn_here", "_law_far", "_law_way", "_law_one", "_law_other"] ["_law_drawn_here", "_law_far"] (defScope s__law_piece) := ⟨rfl, rfl, rfl, by decide +kernel, rfl, by decide +kernel, by decide +kernel⟩
abbrev s__law_plus : Stmt := top 74
theorem sc__law_plus : FnScope ["_law_one", "_law_other"] ["_law_one", "_law_other"] (defScope s__law_plus) := ⟨rfl, rfl, rfl, by decide +kernel, rfl, by decide +kernel, by decide +kernel⟩
abbrev s__law_less : Stmt := top 76
theorem sc__law_less : FnScope ["_law_one", "_law_other"] ["_law_one", "_law_other"] (defScope s__law_less) := ⟨rfl, rfl, rfl, by decide +kernel, rfl, by decide +kernel, by decide +kernel⟩
abbrev s__law_lamp : Stmt := top 77
theorem sc__law_lamp : FnScope ["_law_drawn_here", "_law_first", "_law_last"] ["_law_drawn_here"] (defScope s__law_lamp) := ⟨rfl, rfl, rfl, by decide +kernel, rfl, by decide +kernel, by decide +kernel⟩
abbrev s__law_wide : Stmt := top 79
theorem sc__law_wide : FnScope ["_law_drawn_here", "_law_many", "_law_bench", "_law_k", "_law_piece_here", "_law_low_here"] ["_law_drawn_here", "_law_many"] (defScope s__law_wide) := ⟨rfl, rfl, rfl, by decide +kernel, rfl, by decide +kernel, by decide +kernel⟩
abbrev s__law_names : Stmt := top 80
theorem sc__law_names : FnScope ["_law_e", "_law_some", "_law_words"] ["_law_e"] (defScope s__law_names) := ⟨rfl, rfl, rfl, by decide +kernel, rfl, by decide +kernel, by decide +kernel⟩
abbrev s__law_tried : Stmt := top 81
theorem sc__law_tried : FnScope ["_law_way", "_law_bench", "_law_lamp_here", "_law_first", "_law_last", "_law_found", "_law_at", "_law_e"] ["_law_way", "_law_bench", "_law_lamp_here", "_law_first", "_law_last"] (defScope s__law_tried) := ⟨rfl, rfl, rfl, by decide +kernel, rfl, by decide +kernel, by decide +kernel⟩
abbrev s__law_bad_slants : Stmt := top 82
theorem sc__law_bad_slants : FnScope ["_law_lamp_here", "_law_cell", "_law_bad"] ["_law_lamp_here", "_law_cell"] (defScope s__law_bad_slants) := ⟨rfl, rfl, rfl, by decide +kernel, rfl, by decide +kernel, by decide +kernel⟩
abbrev s__law_bad_bench : Stmt := top 83
theorem sc__law_bad_bench : FnScope ["_law_bench", "_law_cell", "_law_at", "_law_bad"] ["_law_bench", "_law_cell"] (defScope s__law_bad_bench) := ⟨rfl, rfl, rfl, by decide +kernel, rfl, by decide +kernel, by decide +kernel⟩
abbrev s_law : Stmt := top 84
theorem sc_law : FnScope ["_law_script", "_law_drawn_here", "_law_bench", "_law_lamp_here", "_law_cell", "_law_number", "_law_first", "_law_last", "_law_wrong", "_law_at", "_law_refused", "_law_way"] ["_law_script"] (defScope s_law) := ⟨rfl, rfl, rfl, by decide +kernel, rfl, by decide +kernel, by decide +kernel⟩
abbrev s_NoBench_init : Stmt := inClass (top 11) 0
theorem sc_NoBench_init : FnScope ["self", "at"] ["self", "at"] (defScope s_NoBench_init) := ⟨rfl, rfl, rfl, by decide +kernel, rfl, by decide +kernel, by decide +kernel⟩
abbrev s_Piece_bent : Stmt := inClass (top 30) 1
theorem sc_Piece_bent : FnScope ["self", "ray"] ["self", "ray"] (defScope s_Piece_bent) := ⟨rfl, rfl, rfl, by decide +kernel, rfl, by decide +kernel, by decide +kernel⟩
abbrev s_Gap_init : Stmt := inClass (top 31) 0
theorem sc_Gap_init : FnScope ["self", "length"] ["self", "length"] (defScope s_Gap_init) := ⟨rfl, rfl, rfl, by decide +kernel, rfl, by decide +kernel, by decide +kernel⟩
abbrev s_Gap_bent : Stmt := inClass (top 31) 1
theorem sc_Gap_bent : FnScope ["self", "ray"] ["self", "ray"] (defScope s_Gap_bent) := ⟨rfl, rfl, rfl, by decide +kernel, rfl, by decide +kernel, by decide +kernel⟩
abbrev s_Glass_init : Stmt := inClass (top 32) 0
theorem sc_Glass_init : FnScope ["self", "strength"] ["self", "strength"] (defScope s_Glass_init) := ⟨rfl, rfl, rfl, by decide +kernel, rfl, by decide +kernel, by decide +kernel⟩
abbrev s_Glass_bent : Stmt := inClass (top 32) 1
theorem sc_Glass_bent : FnScope ["self", "ray"] ["self", "ray"] (defScope s_Glass_bent) := ⟨rfl, rfl, rfl, by decide +kernel, rfl, by decide +kernel, by decide +kernel⟩
abbrev s_Stop_init : Stmt := inClass (top 33) 0
theorem sc_Stop_init : FnScope ["self", "low", "high"] ["self", "low", "high"] (defScope s_Stop_init) := ⟨rfl, rfl, rfl, by decide +kernel, rfl, by decide +kernel, by decide +kernel⟩
structure Adr where
  z0 : Nat := 0
  BenchError : Addr
  NoNumber : Addr
  NoText : Addr
  NoTable : Addr
  NoBox : Addr
  NoStock : Addr
  NoWish : Addr
  NoRow : Addr
  Unknown : Addr
  NoBench : Addr
  Piece : Addr
  Gap : Addr
  Glass : Addr
  Stop : Addr
  NOUGHT : Addr
  ONE : Addr
  NOWHERE : Addr
  EVERYWHERE : Addr
  tGAP : Tok
  tGLASS : Tok
  tSTOP : Tok
  tMOST_PIECES : Tok
  tFROM : Tok
structure Exc (K : PySem.W.Frag) (mg : Str → Option Value) (ad : Adr) : Prop where
  tt : True := trivial
  m_BenchError : mg "BenchError" = some (.ref ad.BenchError)
  m_NoNumber : mg "NoNumber" = some (.ref ad.NoNumber)
  m_NoText : mg "NoText" = some (.ref ad.NoText)
  m_NoTable : mg "NoTable" = some (.ref ad.NoTable)
  m_NoBox : mg "NoBox" = some (.ref ad.NoBox)
  m_NoStock : mg "NoStock" = some (.ref ad.NoStock)
  m_NoWish : mg "NoWish" = some (.ref ad.NoWish)
  m_NoRow : mg "NoRow" = some (.ref ad.NoRow)
  m_Unknown : mg "Unknown" = some (.ref ad.Unknown)
  m_NoBench : mg "NoBench" = some (.ref ad.NoBench)
  m_Piece : mg "Piece" = some (.ref ad.Piece)
  m_Gap : mg "Gap" = some (.ref ad.Gap)
  m_Glass : mg "Glass" = some (.ref ad.Glass)
  m_Stop : mg "Stop" = some (.ref ad.Stop)
  m_GAP : mg "GAP" = some (.str "gap" ad.tGAP)
  m_GLASS : mg "GLASS" = some (.str "glass" ad.tGLASS)
  m_STOP : mg "STOP" = some (.str "stop" ad.tSTOP)
  m_MOST_PIECES : mg "MOST_PIECES" = some (.int 60 ad.tMOST_PIECES)
  m_FROM : mg "FROM" = some (.str "from" ad.tFROM)
  c_NoBox : ExcCls K mg "NoBox" ad.NoBox
  x_NoBox_BenchError : PySem.W.exmOne K (.ref ad.NoBox) (.ref ad.BenchError) = some true
  x_NoBench_BenchError : PySem.W.exmOne K (.ref ad.NoBench) (.ref ad.BenchError) = some true
  k_NoBox_NoBench : PySem.W.kitOne K (.ref ad.NoBox) (.ref ad.NoBench) = some false
  k_NoBox_NoBox : PySem.W.kitOne K (.ref ad.NoBox) (.ref ad.NoBox) = some true
  k_NoBox_ValueError : PySem.W.kitOne K (.ref ad.NoBox) (.type "ValueError") = some true
  k_NoBox_NoNumber : PySem.W.kitOne K (.ref ad.NoBox) (.ref ad.NoNumber) = some false
  k_NoBox_NoText : PySem.W.kitOne K (.ref ad.NoBox) (.ref ad.NoText) = some false
  k_NoBox_NoTable : PySem.W.kitOne K (.ref ad.NoBox) (.ref ad.NoTable) = some false
  k_NoBox_NoStock : PySem.W.kitOne K (.ref ad.NoBox) (.ref ad.NoStock) = some false
  k_NoBox_NoWish : PySem.W.kitOne K (.ref ad.NoBox) (.ref ad.NoWish) = some false
  k_NoBox_NoRow : PySem.W.kitOne K (.ref ad.NoBox) (.ref ad.NoRow) = some false
  k_NoBox_Unknown : PySem.W.kitOne K (.ref ad.NoBox) (.ref ad.Unknown) = some false
  k_NoBench_NoBench : PySem.W.kitOne K (.ref ad.NoBench) (.ref ad.NoBench) = some true
  k_NoBench_NoBox : PySem.W.kitOne K (.ref ad.NoBench) (.ref ad.NoBox) = some false
  k_NoBench_ValueError : PySem.W.kitOne K (.ref ad.NoBench) (.type "ValueError") = some true
  k_NoBench_NoNumber : PySem.W.kitOne K (.ref ad.NoBench) (.ref ad.NoNumber) = some false
  k_NoBench_NoText : PySem.W.kitOne K (.ref ad.NoBench) (.ref ad.NoText) = some false
  k_NoBench_NoTable : PySem.W.kitOne K (.ref ad.NoBench) (.ref ad.NoTable) = some false
  k_NoBench_NoStock : PySem.W.kitOne K (.ref ad.NoBench) (.ref ad.NoStock) = some false
  k_NoBench_NoWish : PySem.W.kitOne K (.ref ad.NoBench) (.ref ad.NoWish) = some false
  k_NoBench_NoRow : PySem.W.kitOne K (.ref ad.NoBench) (.ref ad.NoRow) = some false
  k_NoBench_Unknown : PySem.W.kitOne K (.ref ad.NoBench) (.ref ad.Unknown) = some false
  e_NoBox : ExcK K ad.NoBox
  e_NoBench : ExcK K ad.NoBench
  l_Gap : Cls K ad.Gap
  i_Gap : MkFn K mg "Gap" ad.Gap "Gap.__init__" s_Gap_init
  q_Gap_bent : MtFn K ad.Gap "bent" "Gap.bent" s_Gap_bent
  n_Gap_length : NoAttr K ad.Gap "length"
  l_Glass : Cls K ad.Glass
  i_Glass : MkFn K mg "Glass" ad.Glass "Glass.__init__" s_Glass_init
  q_Glass_bent : MtFn K ad.Glass "bent" "Glass.bent" s_Glass_bent
  n_Glass_strength : NoAttr K ad.Glass "strength"
  l_Stop : Cls K ad.Stop
  i_Stop : MkFn K mg "Stop" ad.Stop "Stop.__init__" s_Stop_init
  q_Stop_bent : MtFn K ad.Stop "bent" "Piece.bent" s_Piece_bent
  n_Stop_low : NoAttr K ad.Stop "low"
  n_Stop_high : NoAttr K ad.Stop "high"
  j_NoBench : XFn K mg "NoBench" ad.NoBench ad.BenchError "NoBench.__init__" s_NoBench_init
  m_NOUGHT : mg "NOUGHT" = some (.ref ad.NOUGHT)
  s_NOUGHT : ∀ H : Hp, SqT K H ad.NOUGHT [.int 0, .int 1]
  m_ONE : mg "ONE" = some (.ref ad.ONE)
  s_ONE : ∀ H : Hp, SqT K H ad.ONE [.int 1, .int 1]
  m_NOWHERE : mg "NOWHERE" = some (.ref ad.NOWHERE)
  s_NOWHERE : ∀ H : Hp, SqT K H ad.NOWHERE [.str "none"]
  m_EVERYWHERE : mg "EVERYWHERE" = some (.ref ad.EVERYWHERE)
  s_EVERYWHERE : ∀ H : Hp, SqT K H ad.EVERYWHERE [.str "all"]
structure Txt (K : PySem.W.Frag) (mg : Str → Option Value) (ad : Adr) : Prop where
  ex : Exc K mg ad
  ValueError : mg "ValueError" = none
  abs : mg "abs" = none
  all : mg "all" = none
  bool : mg "bool" = none
  enumerate : mg "enumerate" = none
  int : mg "int" = none
  isinstance : mg "isinstance" = none
  len : mg "len" = none
  list : mg "list" = none
  range : mg "range" = none
  str : mg "str" = none
  tuple : mg "tuple" = none
  zip : mg "zip" = none
  t_is_whole : TopFn K mg "is_whole" s_is_whole
  t_common_divisor : TopFn K mg "common_divisor" s_common_divisor
  t_is_ratio : TopFn K mg "is_ratio" s_is_ratio
  t_ratio_of : TopFn K mg "ratio_of" s_ratio_of
  t_sum_of : TopFn K mg "sum_of" s_sum_of
  t_less_by : TopFn K mg "less_by" s_less_by
  t_product_of : TopFn K mg "product_of" s_product_of
  t_quotient_of : TopFn K mg "quotient_of" s_quotient_of
  t_is_less : TopFn K mg "is_less" s_is_less
  t_is_stretch : TopFn K mg "is_stretch" s_is_stretch
  t_look_at_stretch : TopFn K mg "look_at_stretch" s_look_at_stretch
  t_is_piece : TopFn K mg "is_piece" s_is_piece
  t_piece_of : TopFn K mg "piece_of" s_piece_of
  t_look_at : TopFn K mg "look_at" s_look_at
  t_is_table : TopFn K mg "is_table" s_is_table
  t_look_at_table : TopFn K mg "look_at_table" s_look_at_table
  t_table_of_rays : TopFn K mg "table_of_rays" s_table_of_rays
  t_table_of : TopFn K mg "table_of" s_table_of
  t_made_by : TopFn K mg "made_by" s_made_by
  t_limits_of : TopFn K mg "limits_of" s_limits_of
  t_in_order : TopFn K mg "in_order" s_in_order
  t_lesser_of : TopFn K mg "lesser_of" s_lesser_of
  t_greater_of : TopFn K mg "greater_of" s_greater_of
  t_slants_by : TopFn K mg "slants_by" s_slants_by
  t_slants_of : TopFn K mg "slants_of" s_slants_of
  t_height_at : TopFn K mg "height_at" s_height_at
  t_spots_of : TopFn K mg "spots_of" s_spots_of
  t_blur_of : TopFn K mg "blur_of" s_blur_of
  t_spread_of : TopFn K mg "spread_of" s_spread_of
  t_image_of : TopFn K mg "image_of" s_image_of
  t_sharp_places : TopFn K mg "sharp_places" s_sharp_places
  t_places_in_both : TopFn K mg "places_in_both" s_places_in_both
  t_sharp_for_all : TopFn K mg "sharp_for_all" s_sharp_for_all
  t__law_drawn : TopFn K mg "_law_drawn" s__law_drawn
  t__law_draw : TopFn K mg "_law_draw" s__law_draw
  t__law_low : TopFn K mg "_law_low" s__law_low
  t__law_under : TopFn K mg "_law_under" s__law_under
  t__law_part : TopFn K mg "_law_part" s__law_part
  t__law_piece : TopFn K mg "_law_piece" s__law_piece
  t__law_plus : TopFn K mg "_law_plus" s__law_plus
  t__law_less : TopFn K mg "_law_less" s__law_less
  t__law_lamp : TopFn K mg "_law_lamp" s__law_lamp
  t__law_wide : TopFn K mg "_law_wide" s__law_wide
  t__law_names : TopFn K mg "_law_names" s__law_names
  t__law_tried : TopFn K mg "_law_tried" s__law_tried
  t__law_bad_slants : TopFn K mg "_law_bad_slants" s__law_bad_slants
  t__law_bad_bench : TopFn K mg "_law_bad_bench" s__law_bad_bench
theorem exc_mk {K : PySem.W.Frag} {h : Heap} {mg : Str → Option Value} {CBenchError CNoNumber CNoText CNoTable CNoBox CNoStock CNoWish CNoRow CUnknown CNoBench CPiece CGap CGlass CStop CNOUGHT CONE CNOWHERE CEVERYWHERE : Addr} {cdNoBox : ClassData} {cdNoBench : ClassData} {tGAP : Tok} {tGLASS : Tok} {tSTOP : Tok} {tMOST_PIECES : Tok} {tFROM : Tok} {f_Gap_init : Addr} {oc_Gap_init : Value} {od_Gap_init an_Gap_init : Option Addr} {sl_Gap_init : Array (Option Value)} {kV_Gap_init dc_Gap_init pm_Gap_init cd_Gap_init ct_Gap_init : Value} {f_Gap_bent : Addr} {oc_Gap_bent : Value} {od_Gap_bent an_Gap_bent : Option Addr} {sl_Gap_bent : Array (Option Value)} {kV_Gap_bent dc_Gap_bent pm_Gap_bent cd_Gap_bent ct_Gap_bent : Value} {f_Glass_init : Addr} {oc_Glass_init : Value} {od_Glass_init an_Glass_init : Option Addr} {sl_Glass_init : Array (Option Value)} {kV_Glass_init dc_Glass_init pm_Glass_init cd_Glass_init ct_Glass_init : Value} {f_Glass_bent : Addr} {oc_Glass_bent : Value} {od_Glass_bent an_Glass_bent : Option Addr} {sl_Glass_bent : Array (Option Value)} {kV_Glass_bent dc_Glass_bent pm_Glass_bent cd_Glass_bent ct_Glass_bent : Value} {f_Stop_init : Addr} {oc_Stop_init : Value} {od_Stop_init an_Stop_init : Option Addr} {sl_Stop_init : Array (Option Value)} {kV_Stop_init dc_Stop_init pm_Stop_init cd_Stop_init ct_Stop_init : Value} {f_Stop_bent : Addr} {oc_Stop_bent : Value} {od_Stop_bent an_Stop_bent : Option Addr} {sl_Stop_bent : Array (Option Value)} {kV_Stop_bent dc_Stop_bent pm_Stop_bent cd_Stop_bent ct_Stop_bent : Value} {f_NoBench_init : Addr} {oc_NoBench_init : Value} {od_NoBench_init an_NoBench_init : Option Addr} {sl_NoBench_init : Array (Option Value)} {kV_NoBench_init dc_NoBench_init pm_NoBench_init cd_NoBench_init ct_NoBench_init : Value} {nm_NoBench_init qn_NoBench_init : Str} {N_NoBench_init : Addr} {bs_NoBench_init sub_NoBench_init : List Value} {sn_NoBench_init : List Str} {ab_NoBench_init : Bool} {col_NoBench_init : Option Bool} {dd_NoBench_init : Option Addr} {k0_NoBench_init k1_NoBench_init k2_NoBench_init k3_NoBench_init k5_NoBench_init : Option Value} {tk_NOUGHT_0 : Tok} {tk_NOUGHT_1 : Tok} {dd_NOUGHT : Option Addr} {nn_NOUGHT : Nat} {sl_NOUGHT : Array (Option Value)} {tk_ONE_0 : Tok} {tk_ONE_1 : Tok} {dd_ONE : Option Addr} {nn_ONE : Nat} {sl_ONE : Array (Option Value)} {tk_NOWHERE_0 : Tok} {dd_NOWHERE : Option Addr} {nn_NOWHERE : Nat} {sl_NOWHERE : Array (Option Value)} {tk_EVERYWHERE_0 : Tok} {dd_EVERYWHERE : Option Addr} {nn_EVERYWHERE : Nat} {sl_EVERYWHERE : Array (Option Value)} (X : K.In h) (G : h.Ns mainGlobals mg) (m_BenchError : PySem.W.nsIn K mainGlobals "BenchError" = some (some (.ref CBenchError))) (m_NoNumber : PySem.W.nsIn K mainGlobals "NoNumber" = some (some (.ref CNoNumber))) (m_NoText : PySem.W.nsIn K mainGlobals "NoText" = some (some (.ref CNoText))) (m_NoTable : PySem.W.nsIn K mainGlobals "NoTable" = some (some (.ref CNoTable))) (m_NoBox : PySem.W.nsIn K mainGlobals "NoBox" = some (some (.ref CNoBox))) (m_NoStock : PySem.W.nsIn K mainGlobals "NoStock" = some (some (.ref CNoStock))) (m_NoWish : PySem.W.nsIn K mainGlobals "NoWish" = some (some (.ref CNoWish))) (m_NoRow : PySem.W.nsIn K mainGlobals "NoRow" = some (some (.ref CNoRow))) (m_Unknown : PySem.W.nsIn K mainGlobals "Unknown" = some (some (.ref CUnknown))) (m_NoBench : PySem.W.nsIn K mainGlobals "NoBench" = some (some (.ref CNoBench))) (m_Piece : PySem.W.nsIn K mainGlobals "Piece" = some (some (.ref CPiece))) (m_Gap : PySem.W.nsIn K mainGlobals "Gap" = some (some (.ref CGap))) (m_Glass : PySem.W.nsIn K mainGlobals "Glass" = some (some (.ref CGlass))) (m_Stop : PySem.W.nsIn K mainGlobals "Stop" = some (some (.ref CStop))) (m_GAP : PySem.W.nsIn K mainGlobals "GAP" = some (some (.str "gap" tGAP))) (m_GLASS : PySem.W.nsIn K mainGlobals "GLASS" = some (some (.str "glass" tGLASS))) (m_STOP : PySem.W.nsIn K mainGlobals "STOP" = some (some (.str "stop" tSTOP))) (m_MOST_PIECES : PySem.W.nsIn K mainGlobals "MOST_PIECES" = some (some (.int 60 tMOST_PIECES))) (m_FROM : PySem.W.nsIn K mainGlobals "FROM" = some (some (.str "from" tFROM))) (o_NoBox : PySem.W.excIn K CNoBox [.type "ValueError", .type "Exception", .type "BaseException", .type "object"] "ValueError.__new__" = true) (x_NoBox_BenchError : PySem.W.exmOne K (.ref CNoBox) (.ref CBenchError) = some true) (x_NoBench_BenchError : PySem.W.exmOne K (.ref CNoBench) (.ref CBenchError) = some true) (k_NoBox_NoBench : PySem.W.kitOne K (.ref CNoBox) (.ref CNoBench) = some false) (k_NoBox_NoBox : PySem.W.kitOne K (.ref CNoBox) (.ref CNoBox) = some true) (k_NoBox_ValueError : PySem.W.kitOne K (.ref CNoBox) (.type "ValueError") = some true) (k_NoBox_NoNumber : PySem.W.kitOne K (.ref CNoBox) (.ref CNoNumber) = some false) (k_NoBox_NoText : PySem.W.kitOne K (.ref CNoBox) (.ref CNoText) = some false) (k_NoBox_NoTable : PySem.W.kitOne K (.ref CNoBox) (.ref CNoTable) = some false) (k_NoBox_NoStock : PySem.W.kitOne K (.ref CNoBox) (.ref CNoStock) = some false) (k_NoBox_NoWish : PySem.W.kitOne K (.ref CNoBox) (.ref CNoWish) = some false) (k_NoBox_NoRow : PySem.W.kitOne K (.ref CNoBox) (.ref CNoRow) = some false) (k_NoBox_Unknown : PySem.W.kitOne K (.ref CNoBox) (.ref CUnknown) = some false) (k_NoBench_NoBench : PySem.W.kitOne K (.ref CNoBench) (.ref CNoBench) = some true) (k_NoBench_NoBox : PySem.W.kitOne K (.ref CNoBench) (.ref CNoBox) = some false) (k_NoBench_ValueError : PySem.W.kitOne K (.ref CNoBench) (.type "ValueError") = some true) (k_NoBench_NoNumber : PySem.W.kitOne K (.ref CNoBench) (.ref CNoNumber) = some false) (k_NoBench_NoText : PySem.W.kitOne K (.ref CNoBench) (.ref CNoText) = some false) (k_NoBench_NoTable : PySem.W.kitOne K (.ref CNoBench) (.ref CNoTable) = some false) (k_NoBench_NoStock : PySem.W.kitOne K (.ref CNoBench) (.ref CNoStock) = some false) (k_NoBench_NoWish : PySem.W.kitOne K (.ref CNoBench) (.ref CNoWish) = some false) (k_NoBench_NoRow : PySem.W.kitOne K (.ref CNoBench) (.ref CNoRow) = some false) (k_NoBench_Unknown : PySem.W.kitOne K (.ref CNoBench) (.ref CUnknown) = some false) (ecl_NoBox : PySem.W.clsIn K CNoBox = some cdNoBox) (ega_NoBox : PySem.W.findIn K (.ref CNoBox) "__getattribute__" = some (some (.builtin "BaseException.__getattribute__"))) (egt_NoBox : PySem.W.findIn K (.ref CNoBox) "__getattr__" = some none) (eha_NoBox : PySem.W.findIn K (.ref CNoBox) "__class__" = some (some (.builtin "object.__class__"))) (ehn_NoBox : PySem.W.specialIn K (.builtin "object.__class__") "__get__" = some (some (.builtin "getset_descriptor.__get__"))) (eht_NoBox : PySem.W.takesIn K (.builtin "object.__class__") = some true) (ehm_NoBox : PySem.W.mroIn K CNoBox (.type "object") = some true) (ehb_NoBox : PySem.W.mroIn K CNoBox (.type "BaseException") = some true) (ecl_NoBench : PySem.W.clsIn K CNoBench = some cdNoBench) (ega_NoBench : PySem.W.findIn K (.ref CNoBench) "__getattribute__" = some (some (.builtin "BaseException.__getattribute__"))) (egt_NoBench : PySem.W.findIn K (.ref CNoBench) "__getattr__" = some none) (eha_NoBench : PySem.W.findIn K (.ref CNoBench) "__class__" = some (some (.builtin "object.__class__"))) (ehn_NoBench : PySem.W.specialIn K (.builtin "object.__class__") "__get__" = some (some (.builtin "getset_descriptor.__get__"))) (eht_NoBench : PySem.W.takesIn K (.builtin "object.__class__") = some true) (ehm_NoBench : PySem.W.mroIn K CNoBench (.type "object") = some true) (ehb_NoBench : PySem.W.mroIn K CNoBench (.type "BaseException") = some true) (pg_Gap : PySem.W.plainGet K CGap Str.empty = true) (hd_Gap : PySem.W.hasDictIn K CGap = true) (po_Gap : PySem.W.plainOver K CGap = true) (sa_Gap : PySem.W.findIn K (.ref CGap) "__setattr__" = some (some (.builtin "object.__setattr__"))) (mk_Gap_init : PySem.W.makesIn K CGap = true) (a_Gap_init : PySem.W.findIn K (.ref CGap) "__init__" = some (some (.ref f_Gap_init))) (fn_Gap_init : PySem.W.isFn K (.ref f_Gap_init) = true) (kc_Gap_init : PySem.W.keepIn K (.ref CGap) = true) (l_Gap_init : K.lookup f_Gap_init = some ⟨oc_Gap_init, od_Gap_init, .func (PySem.W.fnOf "__init__" "Gap.__init__" (defArgs s_Gap_init) (defBody s_Gap_init) (defScope s_Gap_init) .none kV_Gap_init dc_Gap_init pm_Gap_init an_Gap_init cd_Gap_init ct_Gap_init), sl_Gap_init⟩) (c_Gap_init : PySem.W.codeIn K cd_Gap_init "Gap.__init__" = true) (kp_Gap_init : PySem.W.keepIn K (.ref f_Gap_init) = true) (a_Gap_bent : PySem.W.findIn K (.ref CGap) "bent" = some (some (.ref f_Gap_bent))) (fn_Gap_bent : PySem.W.isFn K (.ref f_Gap_bent) = true) (kp_Gap_bent : PySem.W.keepIn K (.ref f_Gap_bent) = true) (l_Gap_bent : K.lookup f_Gap_bent = some ⟨oc_Gap_bent, od_Gap_bent, .func (PySem.W.fnOf "bent" "Gap.bent" (defArgs s_Gap_bent) (defBody s_Gap_bent) (defScope s_Gap_bent) .none kV_Gap_bent dc_Gap_bent pm_Gap_bent an_Gap_bent cd_Gap_bent ct_Gap_bent), sl_Gap_bent⟩) (c_Gap_bent : PySem.W.codeIn K cd_Gap_bent "Gap.bent" = true) (n_Gap_length : PySem.W.findIn K (.ref CGap) "length" = some none) (pg_Glass : PySem.W.plainGet K CGlass Str.empty = true) (hd_Glass : PySem.W.hasDictIn K CGlass = true) (po_Glass : PySem.W.plainOver K CGlass = true) (sa_Glass : PySem.W.findIn K (.ref CGlass) "__setattr__" = some (some (.builtin "object.__setattr__"))) (mk_Glass_init : PySem.W.makesIn K CGlass = true) (a_Glass_init : PySem.W.findIn K (.ref CGlass) "__init__" = some (some (.ref f_Glass_init))) (fn_Glass_init : PySem.W.isFn K (.ref f_Glass_init) = true) (kc_Glass_init : PySem.W.keepIn K (.ref CGlass) = true) (l_Glass_init : K.lookup f_Glass_init = some ⟨oc_Glass_init, od_Glass_init, .func (PySem.W.fnOf "__init__" "Glass.__init__" (defArgs s_Glass_init) (defBody s_Glass_init) (defScope s_Glass_init) .none kV_Glass_init dc_Glass_init pm_Glass_init an_Glass_init cd_Glass_init ct_Glass_init), sl_Glass_init⟩) (c_Glass_init : PySem.W.codeIn K cd_Glass_init "Glass.__init__" = true) (kp_Glass_init : PySem.W.keepIn K (.ref f_Glass_init) = true) (a_Glass_bent : PySem.W.findIn K (.ref CGlass) "bent" = some (some (.ref f_Glass_bent))) (fn_Glass_bent : PySem.W.isFn K (.ref f_Glass_bent) = true) (kp_Glass_bent : PySem.W.keepIn K (.ref f_Glass_bent) = true) (l_Glass_bent : K.lookup f_Glass_bent = some ⟨oc_Glass_bent, od_Glass_bent, .func (PySem.W.fnOf "bent" "Glass.bent" (defArgs s_Glass_bent) (defBody s_Glass_bent) (defScope s_Glass_bent) .none kV_Glass_bent dc_Glass_bent pm_Glass_bent an_Glass_bent cd_Glass_bent ct_Glass_bent), sl_Glass_bent⟩) (c_Glass_bent : PySem.W.codeIn K cd_Glass_bent "Glass.bent" = true) (n_Glass_strength : PySem.W.findIn K (.ref CGlass) "strength" = some none) (pg_Stop : PySem.W.plainGet K CStop Str.empty = true) (hd_Stop : PySem.W.hasDictIn K CStop = true) (po_Stop : PySem.W.plainOver K CStop = true) (sa_Stop : PySem.W.findIn K (.ref CStop) "__setattr__" = some (some (.builtin "object.__setattr__"))) (mk_Stop_init : PySem.W.makesIn K CStop = true) (a_Stop_init : PySem.W.findIn K (.ref CStop) "__init__" = some (some (.ref f_Stop_init))) (fn_Stop_init : PySem.W.isFn K (.ref f_Stop_init) = true) (kc_Stop_init : PySem.W.keepIn K (.ref CStop) = true) (l_Stop_init : K.lookup f_Stop_init = some ⟨oc_Stop_init, od_Stop_init, .func (PySem.W.fnOf "__init__" "Stop.__init__" (defArgs s_Stop_init) (defBody s_Stop_init) (defScope s_Stop_init) .none kV_Stop_init dc_Stop_init pm_Stop_init an_Stop_init cd_Stop_init ct_Stop_init), sl_Stop_init⟩) (c_Stop_init : PySem.W.codeIn K cd_Stop_init "Stop.__init__" = true) (kp_Stop_init : PySem.W.keepIn K (.ref f_Stop_init) = true) (a_Stop_bent : PySem.W.findIn K (.ref CStop) "bent" = some (some (.ref f_Stop_bent))) (fn_Stop_bent : PySem.W.isFn K (.ref f_Stop_bent) = true) (kp_Stop_bent : PySem.W.keepIn K (.ref f_Stop_bent) = true) (l_Stop_bent : K.lookup f_Stop_bent = some ⟨oc_Stop_bent, od_Stop_bent, .func (PySem.W.fnOf "bent" "Piece.bent" (defArgs s_Piece_bent) (defBody s_Piece_bent) (defScope s_Piece_bent) .none kV_Stop_bent dc_Stop_bent pm_Stop_bent an_Stop_bent cd_Stop_bent ct_Stop_bent), sl_Stop_bent⟩) (c_Stop_bent : PySem.W.codeIn K cd_Stop_bent "Piece.bent" = true) (n_Stop_low : PySem.W.findIn K (.ref CStop) "low" = some none) (n_Stop_high : PySem.W.findIn K (.ref CStop) "high" = some none) (ob_NoBench_init : K.lookup CNoBench = some (excClassObj nm_NoBench_init qn_NoBench_init CNoBench N_NoBench_init bs_NoBench_init (.ref CBenchError :: bmVE) true sn_NoBench_init sub_NoBench_init ab_NoBench_init col_NoBench_init dd_NoBench_init k0_NoBench_init k1_NoBench_init k2_NoBench_init k3_NoBench_init k5_NoBench_init "ValueError.__new__")) (o_cb_NoBench_init : PySem.W.excIn K CBenchError bmVE "ValueError.__new__" = true) (it_NoBench_init : PySem.W.findIn K (.ref CNoBench) "__init__" = some (some (.ref f_NoBench_init))) (kp0_NoBench_init : PySem.W.keepIn K (.ref CNoBench) = true) (hm_NoBench_init : PySem.W.mroIn K CNoBench (.type "object") = some true) (hd_NoBench_init : PySem.W.hasDictIn K CNoBench = true) (fn_NoBench_init : PySem.W.typeIn K (.ref f_NoBench_init) = some (.type "function")) (sa_NoBench_init : PySem.W.findIn K (.ref CNoBench) "__setattr__" = some (some (.builtin "object.__setattr__"))) (na_NoBench_init : PySem.W.findIn K (.ref CNoBench) "at" = some none) (rd_NoBench_init : PySem.W.readsIn K CBenchError (.type "type") = true) (fc_NoBench_init : PySem.W.findCls K (.ref CBenchError) (.type "type") "__init__" = some (.val (.builtin "ValueError.__init__"))) (sg_NoBench_init : PySem.W.specialIn K (.ref CBenchError) "__getattribute__" = some (some (.builtin "type.__getattribute__"))) (l_NoBench_init : K.lookup f_NoBench_init = some ⟨oc_NoBench_init, od_NoBench_init, .func (PySem.W.fnOf "__init__" "NoBench.__init__" (defArgs s_NoBench_init) (defBody s_NoBench_init) (defScope s_NoBench_init) .none kV_NoBench_init dc_NoBench_init pm_NoBench_init an_NoBench_init cd_NoBench_init ct_NoBench_init), sl_NoBench_init⟩) (c_NoBench_init : PySem.W.codeIn K cd_NoBench_init "NoBench.__init__" = true) (kp_NoBench_init : PySem.W.keepIn K (.ref f_NoBench_init) = true) (m_NOUGHT : PySem.W.nsIn K mainGlobals "NOUGHT" = some (some (.ref CNOUGHT))) (lk_NOUGHT : K.lookup CNOUGHT = some ⟨.type "tuple", dd_NOUGHT, .seq #[.int 0 tk_NOUGHT_0, .int 1 tk_NOUGHT_1] nn_NOUGHT, sl_NOUGHT⟩) (m_ONE : PySem.W.nsIn K mainGlobals "ONE" = some (some (.ref CONE))) (lk_ONE : K.lookup CONE = some ⟨.type "tuple", dd_ONE, .seq #[.int 1 tk_ONE_0, .int 1 tk_ONE_1] nn_ONE, sl_ONE⟩) (m_NOWHERE : PySem.W.nsIn K mainGlobals "NOWHERE" = some (some (.ref CNOWHERE))) (lk_NOWHERE : K.lookup CNOWHERE = some ⟨.type "tuple", dd_NOWHERE, .seq #[.str "none" tk_NOWHERE_0] nn_NOWHERE, sl_NOWHERE⟩) (m_EVERYWHERE : PySem.W.nsIn K mainGlobals "EVERYWHERE" = some (some (.ref CEVERYWHERE))) (lk_EVERYWHERE : K.lookup CEVERYWHERE = some ⟨.type "tuple", dd_EVERYWHERE, .seq #[.str "all" tk_EVERYWHERE_0] nn_EVERYWHERE, sl_EVERYWHERE⟩) : Exc K mg ⟨0, CBenchError, CNoNumber, CNoText, CNoTable, CNoBox, CNoStock, CNoWish, CNoRow, CUnknown, CNoBench, CPiece, CGap, CGlass, CStop, CNOUGHT, CONE, CNOWHERE, CEVERYWHERE, tGAP, tGLASS, tSTOP, tMOST_PIECES, tFROM⟩ := ⟨trivial, PySem.W.mg_of X G m_BenchError, PySem.W.mg_of X G m_NoNumber, PySem.W.mg_of X G m_NoText, PySem.W.mg_of X G m_NoTable, PySem.W.mg_of X G m_NoBox, PySem.W.mg_of X G m_NoStock, PySem.W.mg_of X G m_NoWish, PySem.W.mg_of X G m_NoRow, PySem.W.mg_of X G m_Unknown, PySem.W.mg_of X G m_NoBench, PySem.W.mg_of X G m_Piece, PySem.W.mg_of X G m_Gap, PySem.W.mg_of X G m_Glass, PySem.W.mg_of X G m_Stop, PySem.W.mg_of X G m_GAP, PySem.W.mg_of X G m_GLASS, PySem.W.mg_of X G m_STOP, PySem.W.mg_of X G m_MOST_PIECES, PySem.W.mg_of X G m_FROM, ⟨PySem.W.mg_of X G m_NoBox, o_NoBox⟩, x_NoBox_BenchError, x_NoBench_BenchError, k_NoBox_NoBench, k_NoBox_NoBox, k_NoBox_ValueError, k_NoBox_NoNumber, k_NoBox_NoText, k_NoBox_NoTable, k_NoBox_NoStock, k_NoBox_NoWish, k_NoBox_NoRow, k_NoBox_Unknown, k_NoBench_NoBench, k_NoBench_NoBox, k_NoBench_ValueError, k_NoBench_NoNumber, k_NoBench_NoText, k_NoBench_NoTable, k_NoBench_NoStock, k_NoBench_NoWish, k_NoBench_NoRow, k_NoBench_Unknown, ⟨by rw [ecl_NoBox]; rfl, ega_NoBox, egt_NoBox, eha_NoBox, ehn_NoBox, eht_NoBox, ehm_NoBox, ehb_NoBox⟩, ⟨by rw [ecl_NoBench]; rfl, ega_NoBench, egt_NoBench, eha_NoBench, ehn_NoBench, eht_NoBench, ehm_NoBench, ehb_NoBench⟩, ⟨pg_Gap, hd_Gap, po_Gap, sa_Gap⟩, ⟨⟨_, _, fun_mk l_Gap_init c_Gap_init kp_Gap_init, ⟨mk_Gap_init, a_Gap_init, fn_Gap_init, kc_Gap_init⟩⟩, PySem.W.mg_of X G m_Gap⟩, ⟨⟨_, _, fun_mk l_Gap_bent c_Gap_bent kp_Gap_bent, ⟨a_Gap_bent, fn_Gap_bent, kp_Gap_bent⟩⟩, ⟨pg_Gap, hd_Gap, po_Gap, sa_Gap⟩⟩, n_Gap_length, ⟨pg_Glass, hd_Glass, po_Glass, sa_Glass⟩, ⟨⟨_, _, fun_mk l_Glass_init c_Glass_init kp_Glass_init, ⟨mk_Glass_init, a_Glass_init, fn_Glass_init, kc_Glass_init⟩⟩, PySem.W.mg_of X G m_Glass⟩, ⟨⟨_, _, fun_mk l_Glass_bent c_Glass_bent kp_Glass_bent, ⟨a_Glass_bent, fn_Glass_bent, kp_Glass_bent⟩⟩, ⟨pg_Glass, hd_Glass, po_Glass, sa_Glass⟩⟩, n_Glass_strength, ⟨pg_Stop, hd_Stop, po_Stop, sa_Stop⟩, ⟨⟨_, _, fun_mk l_Stop_init c_Stop_init kp_Stop_init, ⟨mk_Stop_init, a_Stop_init, fn_Stop_init, kc_Stop_init⟩⟩, PySem.W.mg_of X G m_Stop⟩, ⟨⟨_, _, fun_mk l_Stop_bent c_Stop_bent kp_Stop_bent, ⟨a_Stop_bent, fn_Stop_bent, kp_Stop_bent⟩⟩, ⟨pg_Stop, hd_Stop, po_Stop, sa_Stop⟩⟩, n_Stop_low, n_Stop_high, ⟨⟨_, _, fun_mk l_NoBench_init c_NoBench_init kp_NoBench_init, ⟨⟨_, _, _, _, _, _, _, _, _, _, _, _, _, _, ob_NoBench_init⟩, o_cb_NoBench_init, it_NoBench_init, kp0_NoBench_init, hm_NoBench_init, hd_NoBench_init, fn_NoBench_init, sa_NoBench_init, na_NoBench_init, rd_NoBench_init, fc_NoBench_init, sg_NoBench_init⟩⟩, PySem.W.mg_of X G m_NoBench⟩, PySem.W.mg_of X G m_NOUGHT, fun H => .inr ⟨_, _, _, lk_NOUGHT, rfl, rfl, by show 2 ≤ sizeLine; decide, (.cons ⟨_, rfl⟩ (.cons ⟨_, rfl⟩ .nil))⟩, PySem.W.mg_of X G m_ONE, fun H => .inr ⟨_, _, _, lk_ONE, rfl, rfl, by show 2 ≤ sizeLine; decide, (.cons ⟨_, rfl⟩ (.cons ⟨_, rfl⟩ .nil))⟩, PySem.W.mg_of X G m_NOWHERE, fun H => .inr ⟨_, _, _, lk_NOWHERE, rfl, rfl, by show 1 ≤ sizeLine; decide, (.cons ⟨_, rfl⟩ .nil)⟩, PySem.W.mg_of X G m_EVERYWHERE, fun H => .inr ⟨_, _, _, lk_EVERYWHERE, rfl, rfl, by show 1 ≤ sizeLine; decide, (.cons ⟨_, rfl⟩ .nil)⟩⟩
section
variable {P : Program} {w : World} {K : PySem.W.Frag} {mg : Str → Option Value} {base : Heap} {ad : Adr} {c : Bool}
theorem c_is_whole (T : Txt K mg ad) : CalB P w K mg base true 1 "is_whole" ["thing"] (spW K) := by
  refine T.t_is_whole.calN sc_is_whole (fun _ _ _ _ _ _ => by1 fun _ => rfl) (fun vs H Q E h => ?_) (fun f cdv A outer s H vs Q E hr h => ?_)
  · obtain ⟨v, d, rfl, _⟩ := h; rfl
  obtain ⟨v, d, rfl, hv, q⟩ := h
  obtain ⟨b, b', hb, hc, e⟩ := isInt_b d
  refine ⟨_, (pss_one (ps_ret (pe_and (pe_callB call_isiD rfl T.isinstance bt_isinstance (pa_name (pv 0) (pa_name (pe_bltn (v := .ty "int") rfl T.int bt_int rfl) pa_nil))) (pe_one (pe_not (pe_callB call_isiD rfl T.isinstance bt_isinstance (pa_name (pv 0) (pa_name (pe_bltn (v := .ty "bool") rfl T.bool bt_bool rfl) pa_nil)))))))), ?_⟩
  refine ⟨_, rfl, _, _, _, b, rfl, hv, hb, _, rfl, ?_⟩
  cases b with
  | false =>
    have e' : isIntD d = false := e.symm
    rw [e'] at q
    exact iteF q
  | true =>
    refine iteT ?_
    refine ⟨_, rfl, _, _, _, b', rfl, hv, hc, _, rfl, ?_⟩
    have e' : (!b') = isIntD d := e
    show Q (.bl (!b')) H
    rw [e']
    exact q
theorem c_common_divisor (T : Txt K mg ad) : CalB P w K mg base true 1 "common_divisor" ["one", "other"] spDiv := by
  refine T.t_common_divisor.calN sc_common_divisor (fun _ _ _ _ _ _ => by2 fun _ _ => rfl) (fun vs H Q E h => ?_) (fun f cdv A outer s H vs Q E hr h => ?_)
  · obtain ⟨a, b, rfl, _⟩ := h; rfl
  obtain ⟨a, b, rfl, q⟩ := h
  refine ⟨_, (pss_cons (ps_set (i := 2) sc_common_divisor.nd rfl (Or.inl rfl) (pe_callB call_abs rfl T.abs bt_abs (pa_name (pv 0) pa_nil))) (pss_cons (ps_set (i := 3) sc_common_divisor.nd rfl (Or.inl rfl) (pe_callB call_abs rfl T.abs bt_abs (pa_name (pv 1) pa_nil))) (pss_cons (ps_while PassesOwn.never (pt_cmpR op_ne (pv 3) pe_int (nomark _)) (pss_cons (ps_set (i := 4) sc_common_divisor.nd rfl (Or.inl rfl) (pe_op op_mod (pv 2) (pv 3))) (pss_cons (ps_set (i := 2) sc_common_divisor.nd rfl (Or.inl rfl) (pv 3)) (pss_one (ps_set (i := 3) sc_common_divisor.nd rfl (Or.inl rfl) (pv 4)))))) (pss_one (ps_ret (pv 2)))))), ?_⟩
  refine ⟨_, rfl, _, rfl, _, rfl, _, rfl, ?_⟩
  have ea := Fr.absE a
  have eb := Fr.absE b
  refine ⟨fun k σ H' => H = H' ∧ ∃ (m : Nat) (r : Option V), σ = [some (.int a), some (.int b), some (.int m), some (.int k), r] ∧ Nat.gcd m k = Nat.gcd a.natAbs b.natAbs, ⟨b.natAbs, rfl, a.natAbs, none, by rw [← ea, ← eb]; rfl, rfl⟩, ?_⟩
  rintro n _ _ ⟨rfl, m, r, rfl, e⟩
  refine ⟨_, rfl, rfl, _, rfl, ?_⟩
  refine ite2 (fun c => ?_) (fun c => ?_)
  · have hn : n ≠ 0 := by
      intro z
      subst z
      simp at c
    have h1 : (m : Int) % (n : Int) = ((m % n : Nat) : Int) := (Int.natCast_emod m n).symm
    refine ⟨fun σ' H' => H = H' ∧ σ' = [some (.int a), some (.int b), some (.int n), some (.int ((m : Int) % (n : Int))), some (.int ((m : Int) % (n : Int)))], ?_, ?_⟩
    · rintro _ _ ⟨rfl, rfl⟩
      rw [h1]
      exact ⟨m % n, Nat.mod_lt _ (by omega), rfl, n, _, rfl, by rw [Fr.gcd_turn, e]⟩
    · exact ⟨_, rfl, _, rfl, _, _, rfl, rfl, (by show (0 : Int) < (n : Int); omega), _, rfl, _, rfl, rfl, rfl⟩
  · have hn : n = 0 := by
      by_cases z : n = 0
      · exact z
      · exfalso
        apply c
        rw [decI]
        simp
        omega
    subst hn
    refine ⟨_, rfl, ?_⟩
    have e2 : (m : Int) = Fr.gcd a b := by
      unfold Fr.gcd
      rw [← e, Nat.gcd_zero_right]
    rw [e2]
    exact q
theorem c_is_ratio (T : Txt K mg ad) : CalB P w K mg base true 2 "is_ratio" ["thing"] (spRatG K) := by
  have C_is_whole := c_is_whole (P := P) (w := w) (base := base) T
  have C_common_divisor := c_common_divisor (P := P) (w := w) (base := base) T
  refine T.t_is_ratio.calN sc_is_ratio (fun _ _ _ _ _ _ => by1 fun _ => rfl) (fun vs H Q E h => ?_) (fun f cdv A outer s H vs Q E hr h => ?_)
  · obtain ⟨_, _, rfl, _⟩ := h; rfl
  obtain ⟨v, q0, rfl, hv, q⟩ := h
  obtain ⟨a, rfl, ha⟩ := hv.fr
  refine ⟨_, (pss_cons (ps_if (PW.pt (pw_or (pt_not (pt_val (pe_callB call_isiD rfl T.isinstance bt_isinstance (pa_name (pv 0) (pa_name (pe_bltn (v := .ty "tuple") rfl T.tuple bt_tuple rfl) pa_nil))))) (pw_or1 (pt_cmpR op_ne (pe_callB call_len_seq rfl T.len bt_len (pa_name (pv 0) pa_nil)) pe_int (nomark _))))) (pss_one (ps_ret pe_bl)) pss_nil) (pss_cons (ps_set (i := 1) sc_is_ratio.nd rfl (Or.inl rfl) (pe_ix ix_tup (pv 0) pe_int (fun _ _ => rfl))) (pss_cons (ps_set (i := 2) sc_is_ratio.nd rfl (Or.inl rfl) (pe_ix ix_tup (pv 0) pe_int (fun _ _ => rfl))) (pss_cons (ps_if (PW.pt (pw_or (pt_not (pt_val (pe_cB C_is_whole (hr.mono (by decide)) pass01 (pa_name (pv 1) pa_nil)))) (pw_or1 (pt_not (pt_val (pe_cB C_is_whole (hr.mono (by decide)) pass01 (pa_name (pv 2) pa_nil))))))) (pss_one (ps_ret pe_bl)) pss_nil) (pss_one (ps_ret (pe_and (pe_cmpR op_ge (pv 2) pe_int (nomark _)) (pe_one (pe_cmpR op_eq (pe_cB C_common_divisor (hr.mono (by decide)) pass01 (pa_name (pv 1) (pa_name (pv 2) pa_nil))) pe_int (nomark _)))))))))), ?_⟩
  refine ⟨_, rfl, _, _, _, _, rfl, hv, isTup_b _, _, rfl, iteF ?_⟩
  refine ⟨_, rfl, a, _, rfl, .inr ha, rfl, _, rfl, iteF ?_⟩
  refine ⟨_, rfl, a, _, _, _, rfl, rfl, ha, rfl, ?_⟩
  refine ⟨_, rfl, a, _, _, _, rfl, rfl, ha, rfl, ?_⟩
  refine ⟨_, rfl, _, _, rfl, .int _, _, rfl, iteF ?_⟩
  refine ⟨_, rfl, _, _, rfl, .int _, _, rfl, iteF ?_⟩
  refine ⟨_, rfl, _, _, rfl, rfl, _, rfl, iteT' (decide_eq_true (denp q0)) ⟨_, rfl, _, rfl, _, _, rfl, rfl, ?_⟩⟩
  show Q (.bl (decide (V.int (Fr.gcd q0.num (q0.den : Int)) = V.int 1))) H
  rw [decI, decide_eq_true (frO_gcd q0)]
  exact q
theorem c_is_ratio_any (T : Txt K mg ad) : CalB P w K mg base true 2 "is_ratio" ["thing"] (spRat K) := by
  have C_is_whole := c_is_whole (P := P) (w := w) (base := base) T
  have C_common_divisor := c_common_divisor (P := P) (w := w) (base := base) T
  refine T.t_is_ratio.calN sc_is_ratio (fun _ _ _ _ _ _ => by1 fun _ => rfl) (fun vs H Q E h => ?_) (fun f cdv A outer s H vs Q E hr h => ?_)
  · obtain ⟨_, _, rfl, _⟩ := h; rfl
  obtain ⟨v, d, rfl, hv, q⟩ := h
  refine ⟨_, (pss_cons (ps_if (PW.pt (pw_or (pt_not (pt_val (pe_callB call_isiD rfl T.isinstance bt_isinstance (pa_name (pv 0) (pa_name (pe_bltn (v := .ty "tuple") rfl T.tuple bt_tuple rfl) pa_nil))))) (pw_or1 (pt_cmpR op_ne (pe_callB call_len_seq rfl T.len bt_len (pa_name (pv 0) pa_nil)) pe_int (nomark _))))) (pss_one (ps_ret pe_bl)) pss_nil) (pss_cons (ps_set (i := 1) sc_is_ratio.nd rfl (Or.inl rfl) (pe_ix ix_tup (pv 0) pe_int (fun _ _ => rfl))) (pss_cons (ps_set (i := 2) sc_is_ratio.nd rfl (Or.inl rfl) (pe_ix ix_tup (pv 0) pe_int (fun _ _ => rfl))) (pss_cons (ps_if (PW.pt (pw_or (pt_not (pt_val (pe_cB C_is_whole (hr.mono (by decide)) pass01 (pa_name (pv 1) pa_nil)))) (pw_or1 (pt_not (pt_val (pe_cB C_is_whole (hr.mono (by decide)) pass01 (pa_name (pv 2) pa_nil))))))) (pss_one (ps_ret pe_bl)) pss_nil) (pss_one (ps_ret (pe_and (pe_cmpR op_ge (pv 2) pe_int (nomark _)) (pe_one (pe_cmpR op_eq (pe_cB C_common_divisor (hr.mono (by decide)) pass01 (pa_name (pv 1) (pa_name (pv 2) pa_nil))) pe_int (nomark _)))))))))), ?_⟩
  refine ⟨_, rfl, _, _, _, _, rfl, hv, isTup_b d, _, rfl, ?_⟩
  cases ht : isTupD d with
  | false =>
    refine iteT (iteT ?_)
    rw [ratD_no ht] at q
    exact q
  | true =>
    obtain ⟨ds, rfl⟩ := isTup_of ht
    obtain ⟨a, xs, rfl, ha, hds⟩ := hv.tup_of
    refine iteF ?_
    refine ⟨_, rfl, a, _, rfl, .inr ha, rfl, _, rfl, ?_⟩
    by_cases hl : ds.length = 2
    · obtain ⟨d1, d2, rfl⟩ : ∃ d1 d2, ds = [d1, d2] := by
        match ds, hl with
        | [d1, d2], _ => exact ⟨d1, d2, rfl⟩
      obtain ⟨x, y, rfl, hx, hy⟩ := hds.two
      refine iteF ?_
      refine ⟨_, rfl, a, _, _, _, rfl, rfl, ha, rfl, ?_⟩
      refine ⟨_, rfl, a, _, _, _, rfl, rfl, ha, rfl, ?_⟩
      refine ⟨_, rfl, _, _, rfl, hx, _, rfl, ?_⟩
      cases h1 : isIntD d1 with
      | false =>
        refine iteT (iteT ?_)
        rw [ratD_two (.inl h1)] at q
        exact q
      | true =>
        refine iteF ?_
        refine ⟨_, rfl, _, _, rfl, hy, _, rfl, ?_⟩
        cases h2 : isIntD d2 with
        | false =>
          refine iteT ?_
          rw [ratD_two (.inr h2)] at q
          exact q
        | true =>
          obtain ⟨i, rfl⟩ := isInt_of h1
          obtain ⟨j, rfl⟩ := isInt_of h2
          obtain rfl := hx.int_of
          obtain rfl := hy.int_of
          refine iteF ?_
          refine ⟨_, rfl, _, _, rfl, rfl, _, rfl, ?_⟩
          have q' : Q (.bl (decide (1 ≤ j) && decide (Fr.gcd i j = 1))) H := q
          refine ite2 (fun c => ?_) (fun c => ?_)
          · have c' : decide (1 ≤ j) = true := c
            rw [c', Bool.true_and] at q'
            refine ⟨_, rfl, _, rfl, i, j, rfl, rfl, ?_⟩
            show Q (.bl (decide (V.int (Fr.gcd i j) = V.int 1))) H
            rw [decI]
            exact q'
          · have c' : decide (1 ≤ j) = false := Bool.eq_false_iff.mpr c
            rw [c', Bool.false_and] at q'
            exact q'
    · have e : decide (V.int ((xs.length : Nat) : Int) = V.int 2) = false := by
        rw [decI]
        exact decide_eq_false (by have := hds.len; omega)
      show if (!decide (V.int ((xs.length : Nat) : Int) = V.int 2)) = true then _ else _
      rw [e]
      refine iteT ?_
      rw [ratD_len hl] at q
      exact q
theorem c_ratio_of (T : Txt K mg ad) : CalB P w K mg base true 2 "ratio_of" ["top", "bottom"] spOfG := by
  have C_is_whole := c_is_whole (P := P) (w := w) (base := base) T
  have C_common_divisor := c_common_divisor (P := P) (w := w) (base := base) T
  refine T.t_ratio_of.calN sc_ratio_of (fun _ _ _ _ _ _ => by2 fun _ _ => rfl) (fun vs H Q E h => ?_) (fun f cdv A outer s H vs Q E hr h => ?_)
  · obtain ⟨x, y, rfl, _⟩ := h; rfl
  obtain ⟨a, b, rfl, b0, bs, q⟩ := h
  refine ⟨_, (pss_cons (ps_if (PW.pt (pw_or (pt_not (pt_val (pe_cB C_is_whole (hr.mono (by decide)) pass01 (pa_name (pv 0) pa_nil)))) (pw_or (pt_not (pt_val (pe_cB C_is_whole (hr.mono (by decide)) pass01 (pa_name (pv 1) pa_nil)))) (pw_or1 (pt_cmpR op_eq (pv 1) pe_int (nomark _)))))) (pss_one ps_never) pss_nil) (pss_cons (ps_set (i := 2) sc_ratio_of.nd rfl (Or.inl rfl) (pe_cB C_common_divisor (hr.mono (by decide)) pass01 (pa_name (pv 0) (pa_name (pv 1) pa_nil)))) (pss_cons (ps_if (pt_cmpR op_lt (pv 1) pe_int (nomark _)) (pss_one (ps_set (i := 2) sc_ratio_of.nd rfl (Or.inl rfl) (pe_op op_sub pe_int (pv 2)))) pss_nil) (pss_one (ps_ret (pe_tup (pa_bin (pe_op op_fdivW (pv 0) (pv 2)) (pa_bin (pe_op op_fdivW (pv 1) (pv 2)) pa_nil)))))))), ?_⟩
  refine ⟨_, rfl, _, _, rfl, .int a, _, rfl, ?_⟩
  refine iteF ?_
  refine ⟨_, rfl, _, _, rfl, .int b, _, rfl, ?_⟩
  refine iteF ?_
  refine ⟨_, rfl, rfl, _, rfl, ?_⟩
  refine ite2 (fun z => ?_) (fun _ => ?_)
  · exfalso
    rw [decI] at z
    exact b0 (of_decide_eq_true z)
  refine ⟨_, rfl, _, rfl, a, b, rfl, ?_⟩
  have gl := Fr.gcd_le (a := a) b0
  have gn := Fr.gcd_nn a b
  have gs : ∀ g : Int, g.natAbs = (Fr.gcd a b).natAbs → g.natAbs.log2 < 9000 := fun g hg => by
    have h2 : g.natAbs < lim := by omega
    exact lim_log h2
  have hlow : ∀ g : Int, g = Fr.sg a b → CDivW a g ∧ CDivW b g := fun g hg => by
    subst hg
    exact ⟨⟨Fr.sg_ne b0, gs _ Fr.sg_abs⟩, ⟨Fr.sg_ne b0, gs _ Fr.sg_abs⟩⟩
  refine ⟨_, rfl, _, _, rfl, rfl, _, rfl, ?_⟩
  refine ite2 (fun c2 => ?_) (fun c2 => ?_)
  · have c3 : b < 0 := of_decide_eq_true c2
    have eg : (0 : Int) - Fr.gcd a b = Fr.sg a b := by
      unfold Fr.sg
      rw [if_pos c3]
    refine ⟨_, rfl, _, _, rfl, rfl, ?_⟩
    refine ⟨_, rfl, _, rfl, _, _, rfl, rfl, (hlow _ eg).1, _, rfl, _, rfl, _, _, rfl, rfl, (hlow _ eg).2, (by show 2 ≤ sizeLine; decide), fun p hp => ?_⟩
    rw [eg]
    exact q p hp
  · have c3 : ¬ b < 0 := fun z => c2 (decide_eq_true z)
    have eg : Fr.gcd a b = Fr.sg a b := by
      unfold Fr.sg
      rw [if_neg c3]
    refine ⟨_, rfl, _, rfl, _, _, rfl, rfl, (hlow _ eg).1, _, rfl, _, rfl, _, _, rfl, rfl, (hlow _ eg).2, (by show 2 ≤ sizeLine; decide), fun p hp => ?_⟩
    rw [eg]
    exact q p hp
theorem c_sum_of (T : Txt K mg ad) : CalB P w K mg base true 3 "sum_of" ["one", "other"] (PR K (RBin fun p q => p + q)) := by
  have C_ratio_of := c_ratio_of (P := P) (w := w) (base := base) T
  refine T.t_sum_of.calN sc_sum_of (fun _ _ _ _ _ _ => by2 fun _ _ => rfl) (fun vs H Q E h => ?_) (fun f cdv A outer s H vs Q E hr h => ?_)
  · obtain ⟨_, _, dv, ⟨_, _, rfl, _⟩, _⟩ := h; exact dv.len
  obtain ⟨_, _, dv, ⟨p, q, rfl, sp, sq, rfl⟩, k⟩ := h
  obtain ⟨_, _, rfl, hx, hy⟩ := dv.two
  obtain ⟨a, rfl, ha⟩ := hx.fr
  obtain ⟨b, rfl, hb⟩ := hy.fr
  refine ⟨_, (pss_one (ps_ret (pe_cB C_ratio_of (hr.mono (by decide)) pass01 (pa_bin (pe_op op_add (pe_op op_mulW (pe_ix ix_tup (pv 0) pe_int (fun _ _ => rfl)) (pe_ix ix_tup (pv 1) pe_int (fun _ _ => rfl))) (pe_op op_mulW (pe_ix ix_tup (pv 1) pe_int (fun _ _ => rfl)) (pe_ix ix_tup (pv 0) pe_int (fun _ _ => rfl)))) (pa_bin (pe_op op_mulW (pe_ix ix_tup (pv 0) pe_int (fun _ _ => rfl)) (pe_ix ix_tup (pv 1) pe_int (fun _ _ => rfl))) pa_nil))))), ?_⟩
  refine ⟨_, rfl, a, _, _, _, rfl, rfl, ha, rfl, _, rfl, b, _, _, _, rfl, rfl, hb, rfl, _, _, rfl, rfl, mulW sp.n sq.dn, ?_⟩
  refine ⟨_, rfl, b, _, _, _, rfl, rfl, hb, rfl, _, rfl, a, _, _, _, rfl, rfl, ha, rfl, _, _, rfl, rfl, mulW sq.n sp.dn, _, _, rfl, rfl, ?_⟩
  refine ⟨_, rfl, a, _, _, _, rfl, rfl, ha, rfl, _, rfl, b, _, _, _, rfl, rfl, hb, rfl, _, _, rfl, rfl, mulW sp.dn sq.dn, ?_⟩
  refine ⟨_, _, rfl, den_mul0 p q, mul_lim sp.dn sq.dn, fun r hr => k _ _ (same_new hr _) ?_⟩
  have e := dv_low (K := K) (H := H) (t := p.num * (q.den : Int) + q.num * (p.den : Int)) (b := (p.den : Int) * (q.den : Int)) (p := r) (den_mul0 p q)
  rw [Fr.sum_rat] at e
  exact e
theorem c_less_by (T : Txt K mg ad) : CalB P w K mg base true 3 "less_by" ["one", "other"] (PR K (RBin fun p q => p - q)) := by
  have C_ratio_of := c_ratio_of (P := P) (w := w) (base := base) T
  refine T.t_less_by.calN sc_less_by (fun _ _ _ _ _ _ => by2 fun _ _ => rfl) (fun vs H Q E h => ?_) (fun f cdv A outer s H vs Q E hr h => ?_)
  · obtain ⟨_, _, dv, ⟨_, _, rfl, _⟩, _⟩ := h; exact dv.len
  obtain ⟨_, _, dv, ⟨p, q, rfl, sp, sq, rfl⟩, k⟩ := h
  obtain ⟨_, _, rfl, hx, hy⟩ := dv.two
  obtain ⟨a, rfl, ha⟩ := hx.fr
  obtain ⟨b, rfl, hb⟩ := hy.fr
  refine ⟨_, (pss_one (ps_ret (pe_cB C_ratio_of (hr.mono (by decide)) pass01 (pa_bin (pe_op op_sub (pe_op op_mulW (pe_ix ix_tup (pv 0) pe_int (fun _ _ => rfl)) (pe_ix ix_tup (pv 1) pe_int (fun _ _ => rfl))) (pe_op op_mulW (pe_ix ix_tup (pv 1) pe_int (fun _ _ => rfl)) (pe_ix ix_tup (pv 0) pe_int (fun _ _ => rfl)))) (pa_bin (pe_op op_mulW (pe_ix ix_tup (pv 0) pe_int (fun _ _ => rfl)) (pe_ix ix_tup (pv 1) pe_int (fun _ _ => rfl))) pa_nil))))), ?_⟩
  refine ⟨_, rfl, a, _, _, _, rfl, rfl, ha, rfl, _, rfl, b, _, _, _, rfl, rfl, hb, rfl, _, _, rfl, rfl, mulW sp.n sq.dn, ?_⟩
  refine ⟨_, rfl, b, _, _, _, rfl, rfl, hb, rfl, _, rfl, a, _, _, _, rfl, rfl, ha, rfl, _, _, rfl, rfl, mulW sq.n sp.dn, _, _, rfl, rfl, ?_⟩
  refine ⟨_, rfl, a, _, _, _, rfl, rfl, ha, rfl, _, rfl, b, _, _, _, rfl, rfl, hb, rfl, _, _, rfl, rfl, mulW sp.dn sq.dn, ?_⟩
  refine ⟨_, _, rfl, den_mul0 p q, mul_lim sp.dn sq.dn, fun r hr => k _ _ (same_new hr _) ?_⟩
  have e := dv_low (K := K) (H := H) (t := p.num * (q.den : Int) - q.num * (p.den : Int)) (b := (p.den : Int) * (q.den : Int)) (p := r) (den_mul0 p q)
  rw [Fr.less_rat] at e
  exact e
theorem c_product_of (T : Txt K mg ad) : CalB P w K mg base true 3 "product_of" ["one", "other"] (PR K (RBin fun p q => p * q)) := by
  have C_ratio_of := c_ratio_of (P := P) (w := w) (base := base) T
  refine T.t_product_of.calN sc_product_of (fun _ _ _ _ _ _ => by2 fun _ _ => rfl) (fun vs H Q E h => ?_) (fun f cdv A outer s H vs Q E hr h => ?_)
  · obtain ⟨_, _, dv, ⟨_, _, rfl, _⟩, _⟩ := h; exact dv.len
  obtain ⟨_, _, dv, ⟨p, q, rfl, sp, sq, rfl⟩, k⟩ := h
  obtain ⟨_, _, rfl, hx, hy⟩ := dv.two
  obtain ⟨a, rfl, ha⟩ := hx.fr
  obtain ⟨b, rfl, hb⟩ := hy.fr
  refine ⟨_, (pss_one (ps_ret (pe_cB C_ratio_of (hr.mono (by decide)) pass01 (pa_bin (pe_op op_mulW (pe_ix ix_tup (pv 0) pe_int (fun _ _ => rfl)) (pe_ix ix_tup (pv 1) pe_int (fun _ _ => rfl))) (pa_bin (pe_op op_mulW (pe_ix ix_tup (pv 0) pe_int (fun _ _ => rfl)) (pe_ix ix_tup (pv 1) pe_int (fun _ _ => rfl))) pa_nil))))), ?_⟩
  refine ⟨_, rfl, a, _, _, _, rfl, rfl, ha, rfl, _, rfl, b, _, _, _, rfl, rfl, hb, rfl, _, _, rfl, rfl, mulW sp.n sq.n, ?_⟩
  refine ⟨_, rfl, a, _, _, _, rfl, rfl, ha, rfl, _, rfl, b, _, _, _, rfl, rfl, hb, rfl, _, _, rfl, rfl, mulW sp.dn sq.dn, ?_⟩
  refine ⟨_, _, rfl, den_mul0 p q, mul_lim sp.dn sq.dn, fun r hr => k _ _ (same_new hr _) ?_⟩
  have e := dv_low (K := K) (H := H) (t := p.num * q.num) (b := (p.den : Int) * (q.den : Int)) (p := r) (den_mul0 p q)
  rw [Fr.prod_rat] at e
  exact e
theorem c_quotient_of (T : Txt K mg ad) : CalB P w K mg base true 3 "quotient_of" ["one", "other"] (PR K RQuo) := by
  have C_ratio_of := c_ratio_of (P := P) (w := w) (base := base) T
  refine T.t_quotient_of.calN sc_quotient_of (fun _ _ _ _ _ _ => by2 fun _ _ => rfl) (fun vs H Q E h => ?_) (fun f cdv A outer s H vs Q E hr h => ?_)
  · obtain ⟨_, _, dv, ⟨_, _, rfl, _⟩, _⟩ := h; exact dv.len
  obtain ⟨_, _, dv, ⟨p, q, rfl, sp, sq, q0, rfl⟩, k⟩ := h
  obtain ⟨_, _, rfl, hx, hy⟩ := dv.two
  obtain ⟨a, rfl, ha⟩ := hx.fr
  obtain ⟨b, rfl, hb⟩ := hy.fr
  refine ⟨_, (pss_one (ps_ret (pe_cB C_ratio_of (hr.mono (by decide)) pass01 (pa_bin (pe_op op_mulW (pe_ix ix_tup (pv 0) pe_int (fun _ _ => rfl)) (pe_ix ix_tup (pv 1) pe_int (fun _ _ => rfl))) (pa_bin (pe_op op_mulW (pe_ix ix_tup (pv 0) pe_int (fun _ _ => rfl)) (pe_ix ix_tup (pv 1) pe_int (fun _ _ => rfl))) pa_nil))))), ?_⟩
  refine ⟨_, rfl, a, _, _, _, rfl, rfl, ha, rfl, _, rfl, b, _, _, _, rfl, rfl, hb, rfl, _, _, rfl, rfl, mulW sp.n sq.dn, ?_⟩
  refine ⟨_, rfl, a, _, _, _, rfl, rfl, ha, rfl, _, rfl, b, _, _, _, rfl, rfl, hb, rfl, _, _, rfl, rfl, mulW sp.dn sq.n, ?_⟩
  have n0 : q.num ≠ 0 := fun e => q0 (Fr.num_zero q |>.mp e)
  have m0 : (p.den : Int) * q.num ≠ 0 := Int.mul_ne_zero (den0 p) n0
  refine ⟨_, _, rfl, m0, mul_lim sp.dn sq.n, fun r hr => k _ _ (same_new hr _) ?_⟩
  have e := dv_low (K := K) (H := H) (t := p.num * (q.den : Int)) (b := (p.den : Int) * q.num) (p := r) m0
  rw [Fr.quot_rat] at e
  exact e
theorem c_is_less (T : Txt K mg ad) : CalB P w K mg base true 1 "is_less" ["one", "other"] (PR K RLess) := by
  refine T.t_is_less.calN sc_is_less (fun _ _ _ _ _ _ => by2 fun _ _ => rfl) (fun vs H Q E h => ?_) (fun f cdv A outer s H vs Q E hr h => ?_)
  · obtain ⟨_, _, dv, ⟨_, _, rfl, _⟩, _⟩ := h; exact dv.len
  obtain ⟨_, _, dv, ⟨p, q, rfl, sp, sq, rfl⟩, k⟩ := h
  obtain ⟨_, _, rfl, hx, hy⟩ := dv.two
  obtain ⟨a, rfl, ha⟩ := hx.fr
  obtain ⟨b, rfl, hb⟩ := hy.fr
  refine ⟨_, (pss_one (ps_ret (pe_cmpR op_lt (pe_op op_mulW (pe_ix ix_tup (pv 0) pe_int (fun _ _ => rfl)) (pe_ix ix_tup (pv 1) pe_int (fun _ _ => rfl))) (pe_op op_mulW (pe_ix ix_tup (pv 1) pe_int (fun _ _ => rfl)) (pe_ix ix_tup (pv 0) pe_int (fun _ _ => rfl))) (nomark _)))), ?_⟩
  refine ⟨_, rfl, a, _, _, _, rfl, rfl, ha, rfl, _, rfl, b, _, _, _, rfl, rfl, hb, rfl, _, _, rfl, rfl, mulW sp.n sq.dn, ?_⟩
  refine ⟨_, rfl, b, _, _, _, rfl, rfl, hb, rfl, _, rfl, a, _, _, _, rfl, rfl, ha, rfl, _, _, rfl, rfl, mulW sq.n sp.dn, _, _, rfl, rfl, ?_⟩
  have e : decide (p.num * (q.den : Int) < q.num * (p.den : Int)) = decide (p < q) := decide_eq_decide.mpr (Fr.lt_rat p q)
  show Q (.bl (decide (p.num * (q.den : Int) < q.num * (p.den : Int)))) H
  rw [e]
  exact k _ _ (Same.refl _) (.bl _)
end
end K50
namespace K50
open PySem L2 Lib Fr Op
seal PE PT PW PA PS PSs PG PGs PI PO PIfs
section
variable {P : Program} {w : World} {K : PySem.W.Frag} {mg : Str → Option Value} {base : Heap} {ad : Adr} {c : Bool}
theorem k_Gap (T : Txt K mg ad) : MkC P w K mg base 1 "Gap" ad.Gap ["self", "length"] (spInit1 ad.Gap "length") := by
  refine T.ex.i_Gap.mkc sc_Gap_init (fun _ _ _ _ _ _ => by2 fun _ _ => rfl) (fun vs H Q E h => ?_) (fun f cdv A outer s H vs Q E hr h => ?_)
  · obtain ⟨a, dx, x, rfl, _⟩ := h; rfl
  obtain ⟨a, dx, x, rfl, ha, q⟩ := h
  refine ⟨_, (pss_one (ps_fldB (pv 0) (pv 1))), ?_⟩
  exact ⟨_, rfl, _, rfl, a, ad.Gap, dx, [], rfl, ha, T.ex.l_Gap, T.ex.n_Gap_length, by decide, q⟩
theorem k_Glass (T : Txt K mg ad) : MkC P w K mg base 1 "Glass" ad.Glass ["self", "strength"] (spInit1 ad.Glass "strength") := by
  refine T.ex.i_Glass.mkc sc_Glass_init (fun _ _ _ _ _ _ => by2 fun _ _ => rfl) (fun vs H Q E h => ?_) (fun f cdv A outer s H vs Q E hr h => ?_)
  · obtain ⟨a, dx, x, rfl, _⟩ := h; rfl
  obtain ⟨a, dx, x, rfl, ha, q⟩ := h
  refine ⟨_, (pss_one (ps_fldB (pv 0) (pv 1))), ?_⟩
  exact ⟨_, rfl, _, rfl, a, ad.Glass, dx, [], rfl, ha, T.ex.l_Glass, T.ex.n_Glass_strength, by decide, q⟩
theorem k_Stop (T : Txt K mg ad) : MkC P w K mg base 1 "Stop" ad.Stop ["self", "low", "high"] (spInit2 ad.Stop "low" "high") := by
  refine T.ex.i_Stop.mkc sc_Stop_init (fun _ _ _ _ _ _ => by3 fun _ _ _ => rfl) (fun vs H Q E h => ?_) (fun f cdv A outer s H vs Q E hr h => ?_)
  · obtain ⟨a, dx, x, y, rfl, _⟩ := h; rfl
  obtain ⟨a, dx, x, y, rfl, ha, q⟩ := h
  refine ⟨_, (pss_cons (ps_fldB (pv 0) (pv 1)) (pss_one (ps_fldB (pv 0) (pv 2)))), ?_⟩
  refine ⟨_, rfl, _, rfl, a, ad.Stop, dx, [], rfl, ha, T.ex.l_Stop, T.ex.n_Stop_low, by decide, ?_⟩
  refine ⟨_, rfl, _, rfl, a, ad.Stop, dx, _, rfl, upd_same, T.ex.l_Stop, T.ex.n_Stop_high, (by show 1 < 1000; decide), ?_⟩
  rw [upd_upd]
  exact q
theorem mc_Stop_bent (T : Txt K mg ad) : MC P w K mg base 4 ad.Stop "bent" ["self", "ray"] spId := by
  refine T.ex.q_Stop_bent.mc sc_Piece_bent (fun _ _ _ _ _ _ => by2 fun _ _ => rfl) (fun vs H Q E h => ?_) (fun f cdv A outer s H vs Q E hr h => ?_)
  · obtain ⟨x, y, rfl, _⟩ := h; rfl
  obtain ⟨x, y, rfl, q⟩ := h
  exact ⟨_, (pss_one (ps_ret (pv 1))), _, rfl, q⟩
theorem mc_Gap_bent (T : Txt K mg ad) : MC P w K mg base 4 ad.Gap "bent" ["self", "ray"] (spOb K ad.Gap ad.Glass ad.Stop (fun p r => rayD (p.bent r)) isGap) := by
  have C_sum_of := c_sum_of (P := P) (w := w) (base := base) T
  have C_product_of := c_product_of (P := P) (w := w) (base := base) T
  refine T.ex.q_Gap_bent.mc sc_Gap_bent (fun _ _ _ _ _ _ => by2 fun _ _ => rfl) (fun vs H Q E h => ?_) (fun f cdv A outer s H vs Q E hr h => ?_)
  · obtain ⟨_, _, _, _, _, _, rfl, _⟩ := h; rfl
  obtain ⟨o, y, p, r, n, m, rfl, hc, ho, hy, rb, pb, hnm, k⟩ := h
  cases ho with
  | glass _ _ => exact hc.elim
  | stop _ _ _ => exact hc.elim
  | @gap a dx x1 d ha h1 =>
    have pb : Bd m d := pb
    obtain ⟨ra, y1, y2, rfl, hra, hy1, hy2⟩ := hy.t2
    refine ⟨_, (pss_one (ps_ret (pe_tup (pa_call (pe_cB C_sum_of (hr.mono (by decide)) pass01 (pa_sub (pe_ix ix_tup (pv 1) pe_int (fun _ _ => rfl)) (pa_call (pe_cB C_product_of (hr.mono (by decide)) pass01 (pa_cons (pe_fldB (pv 0)) (pa_sub (pe_ix ix_tup (pv 1) pe_int (fun _ _ => rfl)) pa_nil))) pa_nil))) (pa_sub (pe_ix ix_tup (pv 1) pe_int (fun _ _ => rfl)) pa_nil))))), ?_⟩
    refine ⟨_, rfl, ra, _, _, _, rfl, rfl, hra, rfl, ?_⟩
    refine ⟨_, rfl, a, _, _, _, _, rfl, ha, T.ex.l_Gap, T.ex.n_Gap_length, rfl, _, rfl, ra, _, _, _, rfl, rfl, hra, rfl, ?_⟩
    refine ⟨_, _, .cons h1 (.cons hy2 .nil), ⟨_, _, rfl, pb.sm (le_b hnm), rb.u.sm (le_a hnm), rfl⟩, fun v H1 s1 hv => ?_⟩
    refine ⟨_, _, .cons (hy1.keep s1) (.cons hv .nil), ⟨_, _, rfl, rb.y.sm (le_a hnm), (pb.mul rb.u).sm (le_ba hnm), rfl⟩, fun v2 H2 s2 hv2 => ?_⟩
    refine ⟨_, rfl, ra, _, _, _, rfl, rfl, hra.keep (s1.trans s2), rfl, (by show 2 ≤ sizeLine; decide), fun t ht => ?_⟩
    exact k _ _ ((s1.trans s2).trans (same_new ht _)) (DV.upd2 ht hv2 (hy2.keep (s1.trans s2)))
theorem mc_Glass_bent (T : Txt K mg ad) : MC P w K mg base 4 ad.Glass "bent" ["self", "ray"] (spOb K ad.Gap ad.Glass ad.Stop (fun p r => rayD (p.bent r)) isGlass) := by
  have C_less_by := c_less_by (P := P) (w := w) (base := base) T
  have C_product_of := c_product_of (P := P) (w := w) (base := base) T
  refine T.ex.q_Glass_bent.mc sc_Glass_bent (fun _ _ _ _ _ _ => by2 fun _ _ => rfl) (fun vs H Q E h => ?_) (fun f cdv A outer s H vs Q E hr h => ?_)
  · obtain ⟨_, _, _, _, _, _, rfl, _⟩ := h; rfl
  obtain ⟨o, y, p, r, n, m, rfl, hc, ho, hy, rb, pb, hnm, k⟩ := h
  cases ho with
  | gap _ _ => exact hc.elim
  | stop _ _ _ => exact hc.elim
  | @glass a dx x1 d ha h1 =>
    have pb : Bd m d := pb
    obtain ⟨ra, y1, y2, rfl, hra, hy1, hy2⟩ := hy.t2
    refine ⟨_, (pss_one (ps_ret (pe_tup (pa_sub (pe_ix ix_tup (pv 1) pe_int (fun _ _ => rfl)) (pa_call (pe_cB C_less_by (hr.mono (by decide)) pass01 (pa_sub (pe_ix ix_tup (pv 1) pe_int (fun _ _ => rfl)) (pa_call (pe_cB C_product_of (hr.mono (by decide)) pass01 (pa_cons (pe_fldB (pv 0)) (pa_sub (pe_ix ix_tup (pv 1) pe_int (fun _ _ => rfl)) pa_nil))) pa_nil))) pa_nil))))), ?_⟩
    refine ⟨_, rfl, ra, _, _, _, rfl, rfl, hra, rfl, ?_⟩
    refine ⟨_, rfl, ra, _, _, _, rfl, rfl, hra, rfl, ?_⟩
    refine ⟨_, rfl, a, _, _, _, _, rfl, ha, T.ex.l_Glass, T.ex.n_Glass_strength, rfl, _, rfl, ra, _, _, _, rfl, rfl, hra, rfl, ?_⟩
    refine ⟨_, _, .cons h1 (.cons hy1 .nil), ⟨_, _, rfl, pb.sm (le_b hnm), rb.y.sm (le_a hnm), rfl⟩, fun v H1 s1 hv => ?_⟩
    refine ⟨_, _, .cons (hy2.keep s1) (.cons hv .nil), ⟨_, _, rfl, rb.u.sm (le_a hnm), (pb.mul rb.y).sm (le_ba hnm), rfl⟩, fun v2 H2 s2 hv2 => ?_⟩
    refine ⟨(by show 2 ≤ sizeLine; decide), fun t ht => ?_⟩
    exact k _ _ ((s1.trans s2).trans (same_new ht _)) (DV.upd2 ht (hy1.keep (s1.trans s2)) hv2)
theorem ob_bent (T : Txt K mg ad) {H : Hp} {v y : V} {p : Pc} {r : Ray} {n m : Nat} (h : ObAt K ad.Gap ad.Glass ad.Stop H v p) (hy : DV K H y (rayD r)) (rb : RB n r) (pb : p.bd m) (hnm : n + m ≤ 3900) :
    ∃ (a C dx : Addr) (fs : List (Str × V)) (ps : List Str) (sp : Sp), v = .ref a ∧ H a = some (.ins C dx fs) ∧ fs.lookup ("bent" : Str) = none ∧ MC P w K mg base 4 C "bent" ps sp ∧ ∀ Q : VK, (∀ v H', Same H H' → DV K H' v (rayD (p.bent r)) → Q v H') → sp [v, y] H Q E0 := by
  cases id h with
  | gap ha hx => exact ⟨_, _, _, _, _, _, rfl, ha, rfl, mc_Gap_bent T, fun Q k => ⟨_, _, .gap _, r, n, m, rfl, trivial, h, hy, rb, pb, hnm, k⟩⟩
  | glass ha hx => exact ⟨_, _, _, _, _, _, rfl, ha, rfl, mc_Glass_bent T, fun Q k => ⟨_, _, .glass _, r, n, m, rfl, trivial, h, hy, rb, pb, hnm, k⟩⟩
  | stop ha hx hz => exact ⟨_, _, _, _, _, _, rfl, ha, rfl, mc_Stop_bent T, fun Q k => ⟨_, _, rfl, k _ _ (Same.refl _) hy⟩⟩
theorem c_piece_of (T : Txt K mg ad) : CalB P w K mg base true 3 "piece_of" ["told"] (spPc K ad.Gap ad.Glass ad.Stop) := by
  have M_Gap := k_Gap (P := P) (w := w) (base := base) T
  have M_Glass := k_Glass (P := P) (w := w) (base := base) T
  have M_Stop := k_Stop (P := P) (w := w) (base := base) T
  refine T.t_piece_of.calN sc_piece_of (fun _ _ _ _ _ _ => by1 fun _ => rfl) (fun vs H Q E h => ?_) (fun f cdv A outer s H vs Q E hr h => ?_)
  · obtain ⟨v, p, rfl, _⟩ := h; rfl
  obtain ⟨v, p, rfl, hv, q⟩ := h
  refine ⟨_, (pss_cons (ps_if (pt_cmpR op_eq (pe_ix ix_tup (pv 0) pe_int (fun _ _ => rfl)) (pe_glob (v := .str "gap") rfl T.ex.m_GAP ⟨_, rfl⟩) (nomark _)) (pss_one (ps_ret (pe_mkB M_Gap (hr.mono (by decide)) (pa_sub (pe_ix ix_tup (pv 0) pe_int (fun _ _ => rfl)) pa_nil)))) pss_nil) (pss_cons (ps_if (pt_cmpR op_eq (pe_ix ix_tup (pv 0) pe_int (fun _ _ => rfl)) (pe_glob (v := .str "glass") rfl T.ex.m_GLASS ⟨_, rfl⟩) (nomark _)) (pss_one (ps_ret (pe_mkB M_Glass (hr.mono (by decide)) (pa_sub (pe_ix ix_tup (pv 0) pe_int (fun _ _ => rfl)) pa_nil)))) pss_nil) (pss_one (ps_ret (pe_mkB M_Stop (hr.mono (by decide)) (pa_sub (pe_ix ix_tup (pv 0) pe_int (fun _ _ => rfl)) (pa_sub (pe_ix ix_tup (pv 0) pe_int (fun _ _ => rfl)) pa_nil))))))), ?_⟩
  cases p with
  | gap d =>
    obtain ⟨a, x, y, rfl, ha, hx, hy⟩ := DV.t2 hv
    obtain rfl := hx.str_of
    refine ⟨_, rfl, a, _, _, _, rfl, rfl, ha, rfl, rfl, _, rfl, iteT' (by decide) ?_⟩
    refine ⟨_, rfl, a, _, _, _, rfl, rfl, ha, rfl, fun o dx ho hdx hne => ⟨o, dx, y, rfl, upd_same, rfl, ?_⟩⟩
    have s1 : Same H (upd H dx (.own o)) := same_new hdx _
    have ho' : upd H dx (.own o) o = none := by rw [upd_ne (Ne.symm hne)]; exact ho
    have s2 := s1.trans (same_new ho' (.ins ad.Gap dx [("length", y)]))
    rw [upd_upd]
    exact q _ _ s2 (.gap upd_same (hy.keep s2))
  | glass d =>
    obtain ⟨a, x, y, rfl, ha, hx, hy⟩ := DV.t2 hv
    obtain rfl := hx.str_of
    refine ⟨_, rfl, a, _, _, _, rfl, rfl, ha, rfl, rfl, _, rfl, iteF' (by decide) ?_⟩
    refine ⟨_, rfl, a, _, _, _, rfl, rfl, ha, rfl, rfl, _, rfl, iteT' (by decide) ?_⟩
    refine ⟨_, rfl, a, _, _, _, rfl, rfl, ha, rfl, fun o dx ho hdx hne => ⟨o, dx, y, rfl, upd_same, rfl, ?_⟩⟩
    have s1 : Same H (upd H dx (.own o)) := same_new hdx _
    have ho' : upd H dx (.own o) o = none := by rw [upd_ne (Ne.symm hne)]; exact ho
    have s2 := s1.trans (same_new ho' (.ins ad.Glass dx [("strength", y)]))
    rw [upd_upd]
    exact q _ _ s2 (.glass upd_same (hy.keep s2))
  | stop lo hi =>
    obtain ⟨a, x, y, z, rfl, ha, hx, hy, hz⟩ := DV.t3 hv
    obtain rfl := hx.str_of
    refine ⟨_, rfl, a, _, _, _, rfl, rfl, ha, rfl, rfl, _, rfl, iteF' (by decide) ?_⟩
    refine ⟨_, rfl, a, _, _, _, rfl, rfl, ha, rfl, rfl, _, rfl, iteF' (by decide) ?_⟩
    refine ⟨_, rfl, a, _, _, _, rfl, rfl, ha, rfl, _, rfl, a, _, _, _, rfl, rfl, ha, rfl, fun o dx ho hdx hne => ⟨o, dx, y, z, rfl, upd_same, rfl, ?_⟩⟩
    have s1 : Same H (upd H dx (.own o)) := same_new hdx _
    have ho' : upd H dx (.own o) o = none := by rw [upd_ne (Ne.symm hne)]; exact ho
    have s2 := s1.trans (same_new ho' (.ins ad.Stop dx [("low", y), ("high", z)]))
    rw [upd_upd]
    exact q _ _ s2 (.stop upd_same (hy.keep s2) (hz.keep s2))
theorem c_is_piece (T : Txt K mg ad) : CalB P w K mg base true 3 "is_piece" ["thing"] (spPieceG K) := by
  have C_is_ratio := c_is_ratio (P := P) (w := w) (base := base) T
  have C_is_less := c_is_less (P := P) (w := w) (base := base) T
  refine T.t_is_piece.calN sc_is_piece (fun _ _ _ _ _ _ => by1 fun _ => rfl) (fun vs H Q E h => ?_) (fun f cdv A outer s H vs Q E hr h => ?_)
  · obtain ⟨_, _, _, rfl, _⟩ := h; rfl
  obtain ⟨v, pc, m, rfl, hv, ok, pb, hm, q⟩ := h
  obtain ⟨z, es, ee, sh⟩ := pc_shape ok pb
  rw [ee] at hv
  obtain ⟨a, xs, rfl, ha, hds⟩ := hv.tup_of
  obtain ⟨x0, xr, rfl, h0, hr'⟩ := hds.cons_of
  obtain rfl := h0.str_of
  have hl := hr'.len
  rw [List.length_map] at hl
  have hl2 := sh.len
  obtain ⟨tR, hR, kR⟩ : ∃ t, PSs (cxB true P w K mg base ["thing"] "is_piece" (defScope s_is_piece) f cdv A outer s H E).nox ((defBody s_is_piece).drop 2) t ∧ ∀ (D : Ends) (H2 : Hp), Same H H2 → (∀ H', Same H H' → D.rt (.bl true) H') → t D [some (.ref a)] H2 := by
    refine ⟨_, (pss_cons (ps_if (pt_cmpR op_eq (pe_ix ix_tup (pv 0) pe_int (fun _ _ => rfl)) (pe_glob (v := .str "stop") rfl T.ex.m_STOP ⟨_, rfl⟩) (nomark _)) (pss_one (ps_ret (pe_and (pe_cmpR op_eq (pe_callB call_len_seq rfl T.len bt_len (pa_name (pv 0) pa_nil)) pe_int (nomark _)) (pe_one (pe_not (pe_cB C_is_less (hr.mono (by decide)) pass01 (pa_sub (pe_ix ix_tup (pv 0) pe_int (fun _ _ => rfl)) (pa_sub (pe_ix ix_tup (pv 0) pe_int (fun _ _ => rfl)) pa_nil)))))))) pss_nil) (pss_one (ps_ret (pe_and (pe_cmpR op_in_seq (pe_ix ix_tup (pv 0) pe_int (fun _ _ => rfl)) (pe_tup (pa_name (pe_glob (v := .str "gap") rfl T.ex.m_GAP ⟨_, rfl⟩) (pa_name (pe_glob (v := .str "glass") rfl T.ex.m_GLASS ⟨_, rfl⟩) pa_nil))) (by rfl)) (pe_one (pe_cmpR op_eq (pe_callB call_len_seq rfl T.len bt_len (pa_name (pv 0) pa_nil)) pe_int (nomark _))))))), ?_⟩
    intro D H2 t2 q
    refine ⟨_, rfl, a, _, _, _, rfl, rfl, ha.keep t2, atI0, rfl, _, rfl, ?_⟩
    rw [decS]
    cases sh with
    | stop nlt blo bhi =>
      obtain ⟨x1, x2, rfl, h1, h2⟩ := hr'.two
      refine iteT' (by decide) ?_
      refine ⟨_, rfl, a, _, rfl, .inr (ha.keep t2), rfl, _, rfl, iteT ?_⟩
      refine ⟨_, rfl, a, _, _, _, rfl, rfl, ha.keep t2, rfl, _, rfl, a, _, _, _, rfl, rfl, ha.keep t2, rfl, ?_⟩
      refine ⟨_, _, .cons (h2.keep t2) (.cons (h1.keep t2) .nil), ⟨_, _, rfl, bhi.sm hm, blo.sm hm, rfl⟩, fun v H3 s3 hv => ?_⟩
      obtain rfl := hv.bl_of
      refine ⟨_, rfl, ?_⟩
      rw [decide_eq_false nlt]
      exact q _ (t2.trans s3)
    | one e1 e2 =>
      refine iteF' e1 ?_
      refine ⟨_, rfl, a, _, _, _, rfl, rfl, ha.keep t2, atI0, (by show 2 ≤ sizeLine; decide), fun p3 hp3 => ?_⟩
      have t3 := t2.trans (same_new hp3 (.tup [.str "gap", .str "glass"]))
      refine ⟨p3, _, rfl, .inr (SqT.of upd_same), rfl, rfl, _, rfl, iteT' ((in_words z).trans e2) ?_⟩
      refine ⟨_, rfl, a, _, rfl, .inr (ha.keep t3), rfl, ?_⟩
      have el2 : xr.length = 1 := hl
      show D.rt (.bl (decide (V.int ((xr.length + 1 : Nat) : Int) = V.int 2))) _
      rw [el2]
      exact q _ t3
  refine ⟨_, (pss_cons (ps_if (PW.pt (pw_or (pt_not (pt_val (pe_callB call_isiD rfl T.isinstance bt_isinstance (pa_name (pv 0) (pa_name (pe_bltn (v := .ty "tuple") rfl T.tuple bt_tuple rfl) pa_nil))))) (pw_or (pt_cmpR op_lt (pe_callB call_len_seq rfl T.len bt_len (pa_name (pv 0) pa_nil)) pe_int (nomark _)) (pw_or1 (pt_not (pt_val (pe_callB call_isiD rfl T.isinstance bt_isinstance (pa_sub (pe_ix ix_tup (pv 0) pe_int (fun _ _ => rfl)) (pa_name (pe_bltn (v := .ty "str") rfl T.str bt_str rfl) pa_nil))))))))) (pss_one (ps_ret pe_bl)) pss_nil) (pss_cons (ps_if (pt_not (pt_val (pe_callB (call_all rfl) rfl T.all bt_all (pa_cons (pe_comp ["part"] [none] rfl (pi_tup (pe_slice sl_tup (pv 0) (po_some pe_int) po_none)) (fun _ _ _ _ _ => (pg_name (i := 0) (show List.Nodup [("part" : Str)] by decide) rfl (by first | exact Or.inl rfl | exact Or.inr rfl))) (fun _ _ _ _ _ => pifs_nil) (fun _ _ _ _ _ => (pe_cB C_is_ratio (hr.mono (by decide)) pass01 (pa_name (pv 0) pa_nil))) (cap_nil (by decide) (by decide)) (by decide) rfl (by decide) rfl (nocap rfl)) pa_nil)))) (pss_one (ps_ret pe_bl)) pss_nil) hR)), ?_⟩
  refine ⟨_, rfl, _, _, _, _, rfl, hv, isTup_b _, _, rfl, iteF ?_⟩
  refine ⟨_, rfl, a, _, rfl, .inr ha, _, _, rfl, rfl, _, rfl, iteF' (decide_eq_false (by simp only [List.length_cons]; omega)) ?_⟩
  refine ⟨_, rfl, a, _, _, _, rfl, rfl, ha, atI0, _, _, _, _, rfl, h0, isStr_b _, _, rfl, iteF ?_⟩
  refine ⟨_, rfl, _, rfl, a, _, rfl, ha, (fun e => by rw [sIx1] at e; simp only [List.length_cons] at e; omega), fun p hp => ⟨p, rfl, ⟨_, SqT.of upd_same⟩, ?_⟩⟩
  rw [cut1]
  have u1 := same_new hp (.tup ((V.str z :: xr).drop 1))
  have hparts := hr'.keep u1
  have hp' : upd H p (.tup ((V.str z :: xr).drop 1)) p = some (.tup xr) := upd_same
  generalize upd H p (.tup ((V.str z :: xr).drop 1)) = H1 at u1 hparts hp' ⊢
  refine comp_tup0 (K := K) (a := p) (xs := xr) (fun i σ ys H' => ∃ c0, σ = [c0] ∧ ys = List.replicate i (V.bl true) ∧ Same H1 H') ⟨_, rfl, rfl, Same.refl _⟩ ?_ ?_ ?_
  · rintro i σ ys H' hi ⟨c0, rfl, rfl, s'⟩
    refine ⟨?_, SqT.of (s' _ _ hp')⟩
    have z2 := small1000 (n := 1000) (by decide)
    rw [List.length_replicate]
    omega
  · rintro i x σ ys H' hi ⟨c0, rfl, rfl, s'⟩
    obtain ⟨dx, hdx, hx⟩ := hparts.get hi
    obtain ⟨q0, rfl⟩ := get_fr hdx
    exact ⟨_, rfl, _, q0, rfl, hx.keep s', nx (lt_of_get hi) ⟨_, rfl, List.replicate_succ'.symm, s'⟩⟩
  · rintro σ ys H' p2 ⟨c0, rfl, rfl, s'⟩ hp2
    have u2 := same_new hp2 (.lst (List.replicate xr.length (V.bl true)))
    refine ⟨p2, List.replicate xr.length true, rfl, SqL.of (by rw [rep_map]; exact upd_same), _, rfl, ?_⟩
    rw [all_rep]
    exact iteF (kR _ _ (u1.trans (s'.trans u2)) q)
theorem c_look_at (T : Txt K mg ad) : CalB P w K mg base true 4 "look_at" ["bench"] (spLook K) := by
  have C_is_piece := c_is_piece (P := P) (w := w) (base := base) T
  refine T.t_look_at.calN sc_look_at (fun _ _ _ _ _ _ => by1 fun _ => rfl) (fun vs H Q E h => ?_) (fun f cdv A outer s H vs Q E hr h => ?_)
  · obtain ⟨_, _, _, rfl, _⟩ := h; rfl
  obtain ⟨v, ps, m, rfl, hv, g, hm, q⟩ := h
  obtain ⟨a, xs, rfl, ha, hxs⟩ := DV.lst_of hv
  have hl : xs.length = ps.length := by have := hxs.len; rw [List.length_map] at this; exact this
  have gl := g.len
  refine ⟨_, (pss_cons (ps_if (PW.pt (pw_or (pt_not (pt_val (pe_callB call_isiD rfl T.isinstance bt_isinstance (pa_name (pv 0) (pa_name (pe_bltn (v := .ty "list") rfl T.list bt_list rfl) pa_nil))))) (pw_or1 (pt_cmpR op_gt (pe_callB call_len_seq rfl T.len bt_len (pa_name (pv 0) pa_nil)) (pe_glob (v := .int 60) rfl T.ex.m_MOST_PIECES ⟨_, rfl⟩) (nomark _))))) (pss_one ps_never) pss_nil) (pss_one (ps_for PassesOwn.never rfl (pi_enum rfl T.enumerate (pa_name (pv 0) pa_nil)) (pg_tup (n := 2) rfl (pgs_cons (pg_name (i := 1) sc_look_at.nd rfl (by first | exact Or.inl rfl | exact Or.inr rfl)) (pgs_cons (pg_name (i := 2) sc_look_at.nd rfl (by first | exact Or.inl rfl | exact Or.inr rfl)) pgs_nil))) (pss_one (ps_if (pt_not (pt_val (pe_cB C_is_piece (hr.mono (by decide)) pass01 (pa_name (pv 2) pa_nil)))) (pss_one ps_never) pss_nil))))), ?_⟩
  refine ⟨_, rfl, _, _, _, _, rfl, hv, isLst_b _, _, rfl, ?_⟩
  refine iteF ?_
  refine ⟨_, rfl, a, _, rfl, .inl ha, _, _, rfl, rfl, _, rfl, iteF' (decide_eq_false (by omega)) ?_⟩
  refine ⟨_, rfl, a, rfl, ⟨_, ha⟩, ?_⟩
  refine for_enum (K := K) (a := a) (xs := xs) (fun i σ H' => ∃ c1 c2, σ = [some (.ref a), c1, c2] ∧ Same H H') ⟨_, _, rfl, Same.refl _⟩ ?_ ?_ ?_
  · rintro i σ H' hi ⟨c1, c2, rfl, s1⟩
    exact ha.keep s1
  · rintro i x σ H' p hi ⟨c1, c2, rfl, s1⟩ hp
    obtain ⟨d, hd, hx⟩ := hxs.get hi
    obtain ⟨pc, hpc, rfl⟩ := get_map_pc hd
    have hmem := List.mem_of_getElem? hpc
    have s2 := s1.trans (same_new hp (.tup [.int i, x]))
    refine ⟨p, _, rfl, SqT.of upd_same, rfl, _, _, rfl, _, _, rfl, rfl, ?_⟩
    exact ⟨_, rfl, _, _, _, rfl, hx.keep s2, g.ok _ hmem, g.bd _ hmem, hm, fun H3 s3 => ⟨_, rfl, iteF ⟨_, _, rfl, s2.trans s3⟩⟩⟩
  · rintro σ H' ⟨c1, c2, rfl, s1⟩
    exact q _ s1
end
end K50
namespace K50
open PySem L2 Lib Fr Op
seal PE PT PW PA PS PSs PG PGs PI PO PIfs
section
variable {P : Program} {w : World} {K : PySem.W.Frag} {mg : Str → Option Value} {base : Heap} {ad : Adr} {c : Bool}
theorem dN (T : Txt K mg ad) (H : Hp) : DV K H (.ref ad.NOUGHT) (frD 0) := .tup (T.ex.s_NOUGHT H) (.cons (.int 0) (.cons (.int 1) .nil))
theorem dO (T : Txt K mg ad) (H : Hp) : DV K H (.ref ad.ONE) (frD 1) := .tup (T.ex.s_ONE H) (.cons (.int 1) (.cons (.int 1) .nil))
theorem c_is_table (T : Txt K mg ad) : CalB P w K mg base true 4 "is_table" ["thing"] (PR K RIsTab) := by
  have C_is_ratio := c_is_ratio (P := P) (w := w) (base := base) T
  have C_less_by := c_less_by (P := P) (w := w) (base := base) T
  have C_product_of := c_product_of (P := P) (w := w) (base := base) T
  refine T.t_is_table.calN sc_is_table (fun _ _ _ _ _ _ => by1 fun _ => rfl) (fun vs H Q E h => ?_) (fun f cdv A outer s H vs Q E hr h => ?_)
  · obtain ⟨_, _, dv, ⟨_, _, rfl, _⟩, _⟩ := h; exact dv.len
  obtain ⟨_, _, dv, ⟨t, n, rfl, tb, hn, rfl⟩, k⟩ := h
  obtain ⟨_, rfl, hx⟩ := dv.one
  obtain ⟨a, x1, x2, x3, x4, rfl, ha, h1, h2, h3, h4⟩ := DV.t4 hx
  have hall : DVs K H [x1, x2, x3, x4] [frD t.a, frD t.b, frD t.c, frD t.d] := .cons h1 (.cons h2 (.cons h3 (.cons h4 .nil)))
  refine ⟨_, (pss_cons (ps_if (PW.pt (pw_or (pt_not (pt_val (pe_callB call_isiD rfl T.isinstance bt_isinstance (pa_name (pv 0) (pa_name (pe_bltn (v := .ty "tuple") rfl T.tuple bt_tuple rfl) pa_nil))))) (pw_or (pt_cmpR op_ne (pe_callB call_len_seq rfl T.len bt_len (pa_name (pv 0) pa_nil)) pe_int (nomark _)) (pw_or1 (pt_not (pt_val (pe_callB (call_all rfl) rfl T.all bt_all (pa_cons (pe_comp ["part"] [none] rfl (pi_tup (pv 0)) (fun _ _ _ _ _ => (pg_name (i := 0) (show List.Nodup [("part" : Str)] by decide) rfl (by first | exact Or.inl rfl | exact Or.inr rfl))) (fun _ _ _ _ _ => pifs_nil) (fun _ _ _ _ _ => (pe_cB C_is_ratio (hr.mono (by decide)) pass01 (pa_name (pv 0) pa_nil))) (cap_nil (by decide) (by decide)) (by decide) rfl (by decide) rfl (nocap rfl)) pa_nil)))))))) (pss_one (ps_ret pe_bl)) pss_nil) (pss_one (ps_ret (pe_cmpR (op_eqD hr.units) (pe_cB C_less_by (hr.mono (by decide)) pass01 (pa_call (pe_cB C_product_of (hr.mono (by decide)) pass01 (pa_sub (pe_ix ix_tup (pv 0) pe_int (fun _ _ => rfl)) (pa_sub (pe_ix ix_tup (pv 0) pe_int (fun _ _ => rfl)) pa_nil))) (pa_call (pe_cB C_product_of (hr.mono (by decide)) pass01 (pa_sub (pe_ix ix_tup (pv 0) pe_int (fun _ _ => rfl)) (pa_sub (pe_ix ix_tup (pv 0) pe_int (fun _ _ => rfl)) pa_nil))) pa_nil))) (pe_glob (v := .ref ad.ONE) rfl T.ex.m_ONE rfl) (nomark _))))), ?_⟩
  refine ⟨_, rfl, _, _, _, _, rfl, hx, isTup_b _, _, rfl, iteF ?_⟩
  refine ⟨_, rfl, a, _, rfl, .inr ha, rfl, _, rfl, iteF ?_⟩
  refine ⟨_, rfl, a, rfl, ⟨_, ha⟩, ?_⟩
  refine comp_tup0 (K := K) (a := a) (xs := [x1, x2, x3, x4]) (fun i σ ys H' => ∃ c0, σ = [c0] ∧ ys = List.replicate i (.bl true) ∧ H' = H) ⟨_, rfl, rfl, rfl⟩ ?_ ?_ ?_
  · rintro i σ ys H' hi ⟨c0, rfl, rfl, rfl⟩
    refine ⟨?_, ha⟩
    rw [List.length_replicate]
    exact Nat.le_of_lt (small1000 (by simp only [List.length_cons, List.length_nil] at hi; omega))
  · rintro i x σ ys H' hi ⟨c0, rfl, rfl, rfl⟩
    obtain ⟨d, hd, hdx⟩ := hall.get hi
    obtain ⟨q0, rfl⟩ := get_fr (es := [t.a, t.b, t.c, t.d]) hd
    exact ⟨_, rfl, _, q0, rfl, hdx, nx (lt_of_get hi) ⟨_, rfl, List.replicate_succ'.symm, rfl⟩⟩
  · rintro σ ys H' p ⟨c0, rfl, rfl, rfl⟩ hp
    have u := same_new hp (.lst (List.replicate [x1, x2, x3, x4].length (.bl true)))
    refine ⟨p, [true, true, true, true], rfl, SqL.of upd_same, _, rfl, iteF ?_⟩
    refine ⟨_, rfl, a, _, _, _, rfl, rfl, ha.keep u, rfl, _, rfl, a, _, _, _, rfl, rfl, ha.keep u, rfl, ?_⟩
    refine ⟨_, _, .cons (h1.keep u) (.cons (h4.keep u) .nil), ⟨_, _, rfl, tb.a.sm (by omega), tb.d.sm (by omega), rfl⟩, fun v1 H1 s1 hv1 => ?_⟩
    have us := u.trans s1
    refine ⟨_, rfl, a, _, _, _, rfl, rfl, ha.keep us, rfl, _, rfl, a, _, _, _, rfl, rfl, ha.keep us, rfl, ?_⟩
    refine ⟨_, _, .cons (h2.keep us) (.cons (h3.keep us) .nil), ⟨_, _, rfl, tb.b.sm (by omega), tb.c.sm (by omega), rfl⟩, fun v2 H2 s2 hv2 => ?_⟩
    refine ⟨_, _, .cons (hv1.keep s2) (.cons hv2 .nil), ⟨_, _, rfl, (tb.a.mul tb.d).sm (by omega), (tb.b.mul tb.c).sm (by omega), rfl⟩, fun v3 H3 s3 hv3 => ?_⟩
    exact eq_frG hv3 (dO T H3) (k _ _ (us.trans (s2.trans s3)) (.bl _))
theorem c_look_at_table (T : Txt K mg ad) : CalB P w K mg base true 5 "look_at_table" ["table"] (PR K RLookT) := by
  have C_is_table := c_is_table (P := P) (w := w) (base := base) T
  refine T.t_look_at_table.calN sc_look_at_table (fun _ _ _ _ _ _ => by1 fun _ => rfl) (fun vs H Q E h => ?_) (fun f cdv A outer s H vs Q E hr h => ?_)
  · obtain ⟨_, _, dv, ⟨_, _, rfl, _⟩, _⟩ := h; exact dv.len
  obtain ⟨_, _, dv, ⟨t, n, rfl, tb, hn, hdet, rfl⟩, k⟩ := h
  obtain ⟨_, rfl, hx⟩ := dv.one
  refine ⟨_, (pss_one (ps_if (pt_not (pt_val (pe_cB C_is_table (hr.mono (by decide)) pass01 (pa_name (pv 0) pa_nil)))) (pss_one ps_never) pss_nil)), ?_⟩
  refine ⟨_, rfl, _, _, .cons hx .nil, ⟨t, n, rfl, tb, hn, rfl⟩, fun v H1 s1 hv => ?_⟩
  rw [decide_eq_true hdet] at hv
  obtain rfl := hv.bl_of
  exact ⟨_, rfl, iteF (k _ _ s1 .non)⟩
theorem c_table_of_rays (T : Txt K mg ad) : CalB P w K mg base true 1 "table_of_rays" ["high", "slanted"] (PR K RRays) := by
  refine T.t_table_of_rays.calN sc_table_of_rays (fun _ _ _ _ _ _ => by2 fun _ _ => rfl) (fun vs H Q E h => ?_) (fun f cdv A outer s H vs Q E hr h => ?_)
  · obtain ⟨_, _, dv, ⟨_, _, rfl, _⟩, _⟩ := h; exact dv.len
  obtain ⟨_, _, dv, ⟨r, t, rfl, rfl⟩, k⟩ := h
  obtain ⟨_, _, rfl, h1, h2⟩ := dv.two
  obtain ⟨a, x1, x2, rfl, ha, hx1, hx2⟩ := DV.t2 h1
  obtain ⟨b, y1, y2, rfl, hb, hy1, hy2⟩ := DV.t2 h2
  refine ⟨_, (pss_one (ps_ret (pe_tup (pa_sub (pe_ix ix_tup (pv 0) pe_int (fun _ _ => rfl)) (pa_sub (pe_ix ix_tup (pv 1) pe_int (fun _ _ => rfl)) (pa_sub (pe_ix ix_tup (pv 0) pe_int (fun _ _ => rfl)) (pa_sub (pe_ix ix_tup (pv 1) pe_int (fun _ _ => rfl)) pa_nil))))))), ?_⟩
  refine ⟨_, rfl, a, _, _, _, rfl, rfl, ha, rfl, _, rfl, b, _, _, _, rfl, rfl, hb, rfl, _, rfl, a, _, _, _, rfl, rfl, ha, rfl, _, rfl, b, _, _, _, rfl, rfl, hb, rfl, (by show 4 ≤ sizeLine; decide), fun p hp => ?_⟩
  exact k _ _ (same_new hp _) (DV.upd4 hp hx1 hy1 hx2 hy2)
theorem c_table_of (T : Txt K mg ad) : CalB P w K mg base true 5 "table_of" ["bench"] (PR K RTabOf) := by
  have C_look_at := c_look_at (P := P) (w := w) (base := base) T
  have C_piece_of := c_piece_of (P := P) (w := w) (base := base) T
  have C_table_of_rays := c_table_of_rays (P := P) (w := w) (base := base) T
  refine T.t_table_of.calN sc_table_of (fun _ _ _ _ _ _ => by1 fun _ => rfl) (fun vs H Q E h => ?_) (fun f cdv A outer s H vs Q E hr h => ?_)
  · obtain ⟨_, _, dv, ⟨_, _, rfl, _⟩, _⟩ := h; exact dv.len
  obtain ⟨_, _, dv, ⟨ps, m, rfl, g, hnm, rfl⟩, k⟩ := h
  obtain ⟨_, rfl, hb⟩ := dv.one
  obtain ⟨a, xs, rfl, ha, hxs⟩ := DV.lst_of hb
  have hl : xs.length = ps.length := by have := hxs.len; rw [List.length_map] at this; exact this
  have gl := g.len
  have r1 : RB 2 e1 := ⟨1, 0, 1, by decide, by decide, by decide, by decide, by decide +kernel, by decide +kernel⟩
  have r2 : RB 2 e2 := ⟨0, 1, 1, by decide, by decide, by decide, by decide, by decide +kernel, by decide +kernel⟩
  refine ⟨_, (pss_cons (ps_expr (pe_cB C_look_at (hr.mono (by decide)) pass01 (pa_name (pv 0) pa_nil))) (pss_cons (ps_set (i := 1) sc_table_of.nd rfl (Or.inl rfl) (pe_tup (pa_name (pe_glob (v := .ref ad.ONE) rfl T.ex.m_ONE rfl) (pa_name (pe_glob (v := .ref ad.NOUGHT) rfl T.ex.m_NOUGHT rfl) pa_nil)))) (pss_cons (ps_set (i := 2) sc_table_of.nd rfl (Or.inl rfl) (pe_tup (pa_name (pe_glob (v := .ref ad.NOUGHT) rfl T.ex.m_NOUGHT rfl) (pa_name (pe_glob (v := .ref ad.ONE) rfl T.ex.m_ONE rfl) pa_nil)))) (pss_cons (ps_for PassesOwn.never rfl (pi_list (pv 0)) (pg_name (i := 3) sc_table_of.nd rfl (by first | exact Or.inl rfl | exact Or.inr rfl)) (pss_cons (ps_set (i := 4) sc_table_of.nd rfl (Or.inl rfl) (pe_cB C_piece_of (hr.mono (by decide)) pass01 (pa_name (pv 3) pa_nil))) (pss_cons (ps_set (i := 1) sc_table_of.nd rfl (Or.inl rfl) (pe_mB (k := 4) (pv 4) (hr.mono (by decide)) (pa_name (pv 1) pa_nil))) (pss_one (ps_set (i := 2) sc_table_of.nd rfl (Or.inl rfl) (pe_mB (k := 4) (pv 4) (hr.mono (by decide)) (pa_name (pv 2) pa_nil))))))) (pss_one (ps_ret (pe_cB C_table_of_rays (hr.mono (by decide)) pass01 (pa_name (pv 1) (pa_name (pv 2) pa_nil))))))))), ?_⟩
  refine ⟨_, rfl, _, ps, m, rfl, hb, g, by omega, fun H1 s1 => ?_⟩
  refine ⟨(by show 2 ≤ sizeLine; decide), fun p1 hp1 => ?_⟩
  have u1 := same_new hp1 (.tup [.ref ad.ONE, .ref ad.NOUGHT])
  have d1 : DV K (upd H1 p1 (.tup [.ref ad.ONE, .ref ad.NOUGHT])) (.ref p1) (rayD e1) := DV.upd2 hp1 (dO T H1) (dN T H1)
  refine ⟨(by show 2 ≤ sizeLine; decide), fun p2 hp2 => ?_⟩
  have u2 := same_new hp2 (.tup [.ref ad.NOUGHT, .ref ad.ONE])
  have d2 : DV K (upd (upd H1 p1 (.tup [.ref ad.ONE, .ref ad.NOUGHT])) p2 (.tup [.ref ad.NOUGHT, .ref ad.ONE])) (.ref p2) (rayD e2) := DV.upd2 hp2 (dN T _) (dO T _)
  have s2 := s1.trans (u1.trans u2)
  refine ⟨_, rfl, a, rfl, ⟨_, ha.keep s2⟩, ?_⟩
  refine for_list (K := K) (a := a) (xs := xs) (fun i σ H' => ∃ c3 c4 v1 v2, σ = [some (.ref a), some v1, some v2, c3, c4] ∧ Same H H' ∧ DV K H' v1 (rayD (bend (ps.take i) e1)) ∧ DV K H' v2 (rayD (bend (ps.take i) e2)) ∧ RB (2 + i * (m + 1)) (bend (ps.take i) e1) ∧ RB (2 + i * (m + 1)) (bend (ps.take i) e2)) ⟨_, _, _, _, rfl, s2, d1.keep u2, d2, by simpa [bend] using r1, by simpa [bend] using r2⟩ ?_ ?_ ?_
  · rintro i σ H' hi ⟨c3, c4, v1, v2, rfl, s3, _⟩
    exact ha.keep s3
  · rintro i x σ H' hi ⟨c3, c4, v1, v2, rfl, s3, hv1, hv2, b1, b2⟩
    obtain ⟨d, hd, hx⟩ := hxs.get hi
    obtain ⟨pc, hpc, rfl⟩ := get_map_pc hd
    have hmem := List.mem_of_getElem? hpc
    have hi' := lt_of_get hpc
    have bi : 2 + i * (m + 1) + m ≤ 3900 := by
      have : i * (m + 1) ≤ ps.length * (m + 1) := Nat.mul_le_mul_right _ (by omega)
      omega
    have et : ∀ r, bend (ps.take (i + 1)) r = pc.bent (bend (ps.take i) r) := fun r => by
      rw [List.take_add_one, hpc, bend_append]
      rfl
    refine ⟨_, rfl, _, pc, rfl, hx.keep s3, fun o H5 s5 ho => ?_⟩
    obtain ⟨oa, C, dx, fs, pps, sp, q1, q2, q3, M, hsp⟩ := ob_bent (P := P) (w := w) (base := base) T ho (hv1.keep s5) b1 (g.bd _ hmem) bi
    refine ⟨_, rfl, oa, C, dx, fs, pps, sp, q1, q2, q3, M, _, rfl, hsp _ (fun w1 H6 s6 hw1 => ?_)⟩
    obtain ⟨oa, C, dx, fs, pps, sp, q1, q2, q3, M, hsp⟩ := ob_bent (P := P) (w := w) (base := base) T (ho.keep s6) (hv2.keep (s5.trans s6)) b2 (g.bd _ hmem) bi
    refine ⟨_, rfl, oa, C, dx, fs, pps, sp, q1, q2, q3, M, _, rfl, hsp _ (fun w2 H7 s7 hw2 => ?_)⟩
    refine ⟨_, _, w1, w2, rfl, s3.trans (s5.trans (s6.trans s7)), ?_, ?_, ?_, ?_⟩
    · rw [et]; exact hw1.keep s7
    · rw [et]; exact hw2
    · rw [et]; exact Rb.mono (bent_rb (g.bd _ hmem) b1) (by rw [Nat.add_mul]; omega)
    · rw [et]; exact Rb.mono (bent_rb (g.bd _ hmem) b2) (by rw [Nat.add_mul]; omega)
  · rintro σ H' ⟨c3, c4, v1, v2, rfl, s3, hv1, hv2, b1, b2⟩
    rw [hl, List.take_length] at hv1 hv2
    exact ⟨_, rfl, _, rfl, _, _, .cons hv1 (.cons hv2 .nil), ⟨_, _, rfl, rfl⟩, fun v4 H4 s4 hv4 => k _ _ (s3.trans s4) hv4⟩
theorem c_made_by (T : Txt K mg ad) : CalB P w K mg base true 4 "made_by" ["table", "ray"] (PR K RMade) := by
  have C_sum_of := c_sum_of (P := P) (w := w) (base := base) T
  have C_product_of := c_product_of (P := P) (w := w) (base := base) T
  refine T.t_made_by.calN sc_made_by (fun _ _ _ _ _ _ => by2 fun _ _ => rfl) (fun vs H Q E h => ?_) (fun f cdv A outer s H vs Q E hr h => ?_)
  · obtain ⟨_, _, dv, ⟨_, _, _, rfl, _⟩, _⟩ := h; exact dv.len
  obtain ⟨_, _, dv, ⟨t, r, n, rfl, tb, b1, b2, hn, rfl⟩, k⟩ := h
  obtain ⟨_, _, rfl, hx, hy⟩ := dv.two
  obtain ⟨a, x1, x2, x3, x4, rfl, ha, h1, h2, h3, h4⟩ := DV.t4 hx
  obtain ⟨b, y1, y2, rfl, hb, hy1, hy2⟩ := DV.t2 hy
  refine ⟨_, (pss_cons (ps_set (i := 2) sc_made_by.nd rfl (Or.inl rfl) (pe_cB C_sum_of (hr.mono (by decide)) pass01 (pa_call (pe_cB C_product_of (hr.mono (by decide)) pass01 (pa_sub (pe_ix ix_tup (pv 0) pe_int (fun _ _ => rfl)) (pa_sub (pe_ix ix_tup (pv 1) pe_int (fun _ _ => rfl)) pa_nil))) (pa_call (pe_cB C_product_of (hr.mono (by decide)) pass01 (pa_sub (pe_ix ix_tup (pv 0) pe_int (fun _ _ => rfl)) (pa_sub (pe_ix ix_tup (pv 1) pe_int (fun _ _ => rfl)) pa_nil))) pa_nil)))) (pss_cons (ps_set (i := 3) sc_made_by.nd rfl (Or.inl rfl) (pe_cB C_sum_of (hr.mono (by decide)) pass01 (pa_call (pe_cB C_product_of (hr.mono (by decide)) pass01 (pa_sub (pe_ix ix_tup (pv 0) pe_int (fun _ _ => rfl)) (pa_sub (pe_ix ix_tup (pv 1) pe_int (fun _ _ => rfl)) pa_nil))) (pa_call (pe_cB C_product_of (hr.mono (by decide)) pass01 (pa_sub (pe_ix ix_tup (pv 0) pe_int (fun _ _ => rfl)) (pa_sub (pe_ix ix_tup (pv 1) pe_int (fun _ _ => rfl)) pa_nil))) pa_nil)))) (pss_one (ps_ret (pe_tup (pa_name (pv 2) (pa_name (pv 3) pa_nil))))))), ?_⟩
  refine ⟨_, rfl, a, _, _, _, rfl, rfl, ha, rfl, _, rfl, b, _, _, _, rfl, rfl, hb, rfl, ?_⟩
  refine ⟨_, _, .cons h1 (.cons hy1 .nil), ⟨_, _, rfl, tb.a.sm (by omega), b1.sm (by omega), rfl⟩, fun v1 H1 s1 hv1 => ?_⟩
  refine ⟨_, rfl, a, _, _, _, rfl, rfl, ha.keep s1, rfl, _, rfl, b, _, _, _, rfl, rfl, hb.keep s1, rfl, ?_⟩
  refine ⟨_, _, .cons (h2.keep s1) (.cons (hy2.keep s1) .nil), ⟨_, _, rfl, tb.b.sm (by omega), b2.sm (by omega), rfl⟩, fun v2 H2 s2 hv2 => ?_⟩
  refine ⟨_, _, .cons (hv1.keep s2) (.cons hv2 .nil), ⟨_, _, rfl, (tb.a.mul b1).sm (by omega), (tb.b.mul b2).sm (by omega), rfl⟩, fun v3 H3 s3 hv3 => ?_⟩
  have s13 := s1.trans (s2.trans s3)
  refine ⟨_, rfl, a, _, _, _, rfl, rfl, ha.keep s13, rfl, _, rfl, b, _, _, _, rfl, rfl, hb.keep s13, rfl, ?_⟩
  refine ⟨_, _, .cons (h3.keep s13) (.cons (hy1.keep s13) .nil), ⟨_, _, rfl, tb.c.sm (by omega), b1.sm (by omega), rfl⟩, fun v4 H4 s4 hv4 => ?_⟩
  have s14 := s13.trans s4
  refine ⟨_, rfl, a, _, _, _, rfl, rfl, ha.keep s14, rfl, _, rfl, b, _, _, _, rfl, rfl, hb.keep s14, rfl, ?_⟩
  refine ⟨_, _, .cons (h4.keep s14) (.cons (hy2.keep s14) .nil), ⟨_, _, rfl, tb.d.sm (by omega), b2.sm (by omega), rfl⟩, fun v5 H5 s5 hv5 => ?_⟩
  refine ⟨_, _, .cons (hv4.keep s5) (.cons hv5 .nil), ⟨_, _, rfl, (tb.c.mul b1).sm (by omega), (tb.d.mul b2).sm (by omega), rfl⟩, fun v6 H6 s6 hv6 => ?_⟩
  refine ⟨_, rfl, _, rfl, (by show 2 ≤ sizeLine; decide), fun p hp => ?_⟩
  exact k _ _ (s14.trans (s5.trans (s6.trans (same_new hp _)))) (DV.upd2 hp (hv3.keep (s4.trans (s5.trans s6))) hv6)
theorem c_spread_of (T : Txt K mg ad) : CalB P w K mg base true 4 "spread_of" ["table", "s"] (PR K RSpread) := by
  have C_sum_of := c_sum_of (P := P) (w := w) (base := base) T
  have C_product_of := c_product_of (P := P) (w := w) (base := base) T
  refine T.t_spread_of.calN sc_spread_of (fun _ _ _ _ _ _ => by2 fun _ _ => rfl) (fun vs H Q E h => ?_) (fun f cdv A outer s H vs Q E hr h => ?_)
  · obtain ⟨_, _, dv, ⟨_, _, _, rfl, _⟩, _⟩ := h; exact dv.len
  obtain ⟨_, _, dv, ⟨t, q, n, rfl, tb, bq, hn, rfl⟩, k⟩ := h
  obtain ⟨_, y, rfl, hx, hy⟩ := dv.two
  obtain ⟨a, x1, x2, x3, x4, rfl, ha, h1, h2, h3, h4⟩ := DV.t4 hx
  refine ⟨_, (pss_cons (ps_set (i := 2) sc_spread_of.nd rfl (Or.inl rfl) (pe_cB C_sum_of (hr.mono (by decide)) pass01 (pa_call (pe_cB C_product_of (hr.mono (by decide)) pass01 (pa_sub (pe_ix ix_tup (pv 0) pe_int (fun _ _ => rfl)) (pa_name (pv 1) pa_nil))) (pa_sub (pe_ix ix_tup (pv 0) pe_int (fun _ _ => rfl)) pa_nil)))) (pss_cons (ps_set (i := 3) sc_spread_of.nd rfl (Or.inl rfl) (pe_cB C_sum_of (hr.mono (by decide)) pass01 (pa_call (pe_cB C_product_of (hr.mono (by decide)) pass01 (pa_sub (pe_ix ix_tup (pv 0) pe_int (fun _ _ => rfl)) (pa_name (pv 1) pa_nil))) (pa_sub (pe_ix ix_tup (pv 0) pe_int (fun _ _ => rfl)) pa_nil)))) (pss_one (ps_ret (pe_tup (pa_name (pv 2) (pa_name (pv 3) pa_nil))))))), ?_⟩
  refine ⟨_, rfl, a, _, _, _, rfl, rfl, ha, rfl, _, rfl, ?_⟩
  refine ⟨_, _, .cons h1 (.cons hy .nil), ⟨_, _, rfl, tb.a.sm (by omega), bq.sm (by omega), rfl⟩, fun v1 H1 s1 hv1 => ?_⟩
  refine ⟨_, rfl, a, _, _, _, rfl, rfl, ha.keep s1, rfl, ?_⟩
  refine ⟨_, _, .cons hv1 (.cons (h2.keep s1) .nil), ⟨_, _, rfl, (tb.a.mul bq).sm (by omega), tb.b.sm (by omega), rfl⟩, fun v2 H2 s2 hv2 => ?_⟩
  have s12 := s1.trans s2
  refine ⟨_, rfl, a, _, _, _, rfl, rfl, ha.keep s12, rfl, _, rfl, ?_⟩
  refine ⟨_, _, .cons (h3.keep s12) (.cons (hy.keep s12) .nil), ⟨_, _, rfl, tb.c.sm (by omega), bq.sm (by omega), rfl⟩, fun v3 H3 s3 hv3 => ?_⟩
  have s13 := s12.trans s3
  refine ⟨_, rfl, a, _, _, _, rfl, rfl, ha.keep s13, rfl, ?_⟩
  refine ⟨_, _, .cons hv3 (.cons (h4.keep s13) .nil), ⟨_, _, rfl, (tb.c.mul bq).sm (by omega), tb.d.sm (by omega), rfl⟩, fun v4 H4 s4 hv4 => ?_⟩
  refine ⟨_, rfl, _, rfl, (by show 2 ≤ sizeLine; decide), fun p hp => ?_⟩
  exact k _ _ (s13.trans (s4.trans (same_new hp _))) (DV.upd2 hp (hv2.keep (s3.trans s4)) hv4)
theorem c_image_of (T : Txt K mg ad) : CalB P w K mg base true 6 "image_of" ["table", "s"] (PR K RImg) := by
  have C_look_at_table := c_look_at_table (P := P) (w := w) (base := base) T
  have C_spread_of := c_spread_of (P := P) (w := w) (base := base) T
  have C_less_by := c_less_by (P := P) (w := w) (base := base) T
  have C_quotient_of := c_quotient_of (P := P) (w := w) (base := base) T
  refine T.t_image_of.calN sc_image_of (fun _ _ _ _ _ _ => by2 fun _ _ => rfl) (fun vs H Q E h => ?_) (fun f cdv A outer s H vs Q E hr h => ?_)
  · obtain ⟨_, _, dv, ⟨_, _, _, rfl, _⟩, _⟩ := h; exact dv.len
  obtain ⟨_, _, dv, ⟨t, q, n, rfl, tb, hdet, bq, hn, rfl⟩, k⟩ := h
  obtain ⟨_, y, rfl, hx, hy⟩ := dv.two
  obtain ⟨sb1, sb2⟩ := spread_bd tb bq
  refine ⟨_, (pss_cons (ps_expr (pe_cB C_look_at_table (hr.mono (by decide)) pass01 (pa_name (pv 0) pa_nil))) (pss_cons (ps_set (i := 2) sc_image_of.nd rfl (Or.inl rfl) (pe_cB C_spread_of (hr.mono (by decide)) pass01 (pa_name (pv 0) (pa_name (pv 1) pa_nil)))) (pss_cons (ps_if (pt_cmpR (op_eqD hr.units) (pe_ix ix_tup (pv 2) pe_int (fun _ _ => rfl)) (pe_glob (v := .ref ad.NOUGHT) rfl T.ex.m_NOUGHT rfl) (nomark _)) (pss_one (ps_ret pe_non)) pss_nil) (pss_one (ps_ret (pe_cB C_less_by (hr.mono (by decide)) pass01 (pa_name (pe_glob (v := .ref ad.NOUGHT) rfl T.ex.m_NOUGHT rfl) (pa_call (pe_cB C_quotient_of (hr.mono (by decide)) pass01 (pa_sub (pe_ix ix_tup (pv 2) pe_int (fun _ _ => rfl)) (pa_sub (pe_ix ix_tup (pv 2) pe_int (fun _ _ => rfl)) pa_nil))) pa_nil)))))))), ?_⟩
  refine ⟨_, rfl, _, _, .cons hx .nil, ⟨t, n, rfl, tb, by omega, hdet, rfl⟩, fun v0 H1 s1 _ => ?_⟩
  refine ⟨_, rfl, _, rfl, _, _, .cons (hx.keep s1) (.cons (hy.keep s1) .nil), ⟨t, q, n, rfl, tb, bq, by omega, rfl⟩, fun v H2 s2 hv => ?_⟩
  obtain ⟨b, y1, y2, rfl, hb, hy1, hy2⟩ := DV.t2 hv
  have s12 := s1.trans s2
  refine ⟨_, rfl, b, _, _, _, rfl, rfl, hb, rfl, eq_frG hy2 (dN T H2) ⟨_, rfl, ?_⟩⟩
  unfold img at k
  by_cases hz : (spread t q).2 = 0
  · rw [if_pos hz] at k
    exact iteT' (decide_eq_true hz) (k _ _ s12 .non)
  · rw [if_neg hz] at k
    refine iteF' (decide_eq_false hz) ?_
    refine ⟨_, rfl, b, _, _, _, rfl, rfl, hb, rfl, _, rfl, b, _, _, _, rfl, rfl, hb, rfl, ?_⟩
    refine ⟨_, _, .cons hy1 (.cons hy2 .nil), ⟨_, _, rfl, sb1.sm (by omega), sb2.sm (by omega), hz, rfl⟩, fun v3 H3 s3 hv3 => ?_⟩
    exact ⟨_, _, .cons (dN T H3) (.cons hv3 .nil), ⟨0, _, rfl, Sm.zero, (sb1.div sb2 hz).sm (by omega), rfl⟩, fun v4 H4 s4 hv4 => k _ _ (s12.trans (s3.trans s4)) hv4⟩
end
end K50
namespace K50
open PySem L2 Lib Fr Op
seal PE PT PW PA PS PSs PG PGs PI PO PIfs
local macro_rules | `(tactic| walk_at "Zs") => `(tactic| first | with_reducible assumption | with_reducible exact Same.refl _ | exact zs1 (by with_reducible assumption) (by walk_at "Zs") | exact zs2 (by with_reducible assumption) (by walk_at "Zs"))
local macro_rules | `(tactic| walk_at "Zd") => `(tactic| first | with_reducible assumption | with_reducible exact DV.int _ | with_reducible exact DV.str _ | with_reducible exact DV.bl _ | with_reducible exact DV.non | exact zd1 (by first | with_reducible assumption | assumption) (by walk_at "Zs") | with_reducible exact dN (by assumption) _ | with_reducible exact dO (by assumption) _ | exact zd2 (by with_reducible assumption) (by walk_at "Zs") (by walk_at "Zd") (by walk_at "Zd") | exact zd3 (by with_reducible assumption) (by walk_at "Zs") (by walk_at "Zd") (by walk_at "Zd") (by walk_at "Zd") | exact zd4 (by with_reducible assumption) (by walk_at "Zs") (by walk_at "Zd") (by walk_at "Zd") (by walk_at "Zd") (by walk_at "Zd"))
local macro_rules | `(tactic| walk_at "Zt") => `(tactic| first | assumption | exact zt1 (by assumption) (by walk_at "Zs") | exact zt2 (by walk_at "Zs"))
local macro_rules | `(tactic| walk_at "Zl") => `(tactic| first | assumption | exact zl1 (by assumption) (by walk_at "Zs") | exact zl2 (by walk_at "Zs"))
local macro_rules | `(tactic| walk_at "Zv") => `(tactic| first | exact DVs.nil | exact DVs.cons (by walk_at "Zd") (by walk_at "Zv"))
local macro_rules | `(tactic| walk_at "Zb") => `(tactic| first | with_reducible assumption | exact bd_zero 1 (by decide) | exact bd_one 1 (by decide) | with_reducible exact Bd.mul (by walk_at "Zb") (by walk_at "Zb") | with_reducible exact Bd.add (by walk_at "Zb") (by walk_at "Zb") | with_reducible exact Bd.sub (by walk_at "Zb") (by walk_at "Zb") | with_reducible exact Tb.a (by with_reducible assumption) | with_reducible exact Tb.b (by with_reducible assumption) | with_reducible exact Tb.c (by with_reducible assumption) | with_reducible exact Tb.d (by with_reducible assumption) | with_reducible exact Rb.y (by with_reducible assumption) | with_reducible exact Rb.u (by with_reducible assumption))
local macro_rules | `(tactic| walk_at "Zm") => `(tactic| first | with_reducible assumption | with_reducible exact Sm.zero | with_reducible exact Sm.one | exact Bd.sm (by walk_at "Zb") (by first | decide | omega))
local macro_rules | `(tactic| walk_at "Zr") => `(tactic| first | exact ⟨_, _, rfl, by walk_at "Zm", by walk_at "Zm", rfl⟩ | exact ⟨_, _, rfl, by walk_at "Zm", by walk_at "Zm", by assumption, rfl⟩)
local macro_rules | `(tactic| walk_at "Zc") => `(tactic| (refine ⟨_, _, by walk_at "Zv", by walk_at "Zr", fun v H' s hv => ?_⟩; (first | (obtain rfl := DV.bl_of hv) | (have := (show DV _ _ _ (frD _) from hv); clear this) | (obtain ⟨a, x1, x2, x3, x4, rfl, ha, h1, h2, h3, h4⟩ := DV.t4 hv) | (obtain ⟨a, x1, x2, x3, rfl, ha, h1, h2, h3⟩ := DV.t3 hv) | (obtain ⟨a, x1, x2, rfl, ha, h1, h2⟩ := DV.t2 hv) | skip)))
local macro_rules | `(tactic| walk_at "Zp") => `(tactic| first | refine ⟨by (show 2 ≤ sizeLine; decide), fun p hp => ?_⟩ | refine ⟨by (show 3 ≤ sizeLine; decide), fun p hp => ?_⟩ | refine ⟨by (show 4 ≤ sizeLine; decide), fun p hp => ?_⟩)
local macro_rules | `(tactic| walk_at "Zn") => `(tactic| first | refine ⟨_, rfl, ?_⟩ | refine ⟨_, _, _, _, rfl, rfl, by walk_at "Zt", by rfl, ?_⟩ | refine ⟨_, _, rfl, rfl, ?_⟩)
local macro_rules | `(tactic| walk_at "Z1") => `(tactic| first | walk_at "Zn" | walk_at "Zp" | walk_at "Zc" | refine iteF ?_ | refine iteT ?_)
local macro_rules | `(tactic| walk_at "Z") => `(tactic| repeat walk_at "Z1")
section
variable {P : Program} {w : World} {K : PySem.W.Frag} {mg : Str → Option Value} {base : Heap} {ad : Adr} {c : Bool}
theorem c_limits_of (T : Txt K mg ad) : CalB P w K mg base true 5 "limits_of" ["bench"] (spLims K) := by
  have C_look_at := c_look_at (P := P) (w := w) (base := base) T
  have C_piece_of := c_piece_of (P := P) (w := w) (base := base) T
  refine T.t_limits_of.calN sc_limits_of (fun _ _ _ _ _ _ => by1 fun _ => rfl) (fun vs H Q E h => ?_) (fun f cdv A outer s H vs Q E hr h => ?_)
  · obtain ⟨_, _, _, rfl, _⟩ := h; rfl
  obtain ⟨b, ps, m, rfl, hb, g, hnm, q⟩ := h
  obtain ⟨a, xs, rfl, ha, hxs⟩ := DV.lst_of hb
  have hl : xs.length = ps.length := by have := hxs.len; rw [List.length_map] at this; exact this
  have gl := g.len
  refine ⟨_, (pss_cons (ps_expr (pe_cB C_look_at (hr.mono (by decide)) pass01 (pa_name (pv 0) pa_nil))) (pss_cons (ps_set (i := 1) sc_limits_of.nd rfl (Or.inl rfl) (pe_lst pa_nil)) (pss_cons (ps_set (i := 2) sc_limits_of.nd rfl (Or.inl rfl) (pe_tup (pa_name (pe_glob (v := .ref ad.ONE) rfl T.ex.m_ONE rfl) (pa_name (pe_glob (v := .ref ad.NOUGHT) rfl T.ex.m_NOUGHT rfl) pa_nil)))) (pss_cons (ps_set (i := 3) sc_limits_of.nd rfl (Or.inl rfl) (pe_tup (pa_name (pe_glob (v := .ref ad.NOUGHT) rfl T.ex.m_NOUGHT rfl) (pa_name (pe_glob (v := .ref ad.ONE) rfl T.ex.m_ONE rfl) pa_nil)))) (pss_cons (ps_for PassesOwn.never rfl (pi_enum rfl T.enumerate (pa_name (pv 0) pa_nil)) (pg_tup (n := 2) rfl (pgs_cons (pg_name (i := 4) sc_limits_of.nd rfl (by first | exact Or.inl rfl | exact Or.inr rfl)) (pgs_cons (pg_name (i := 5) sc_limits_of.nd rfl (by first | exact Or.inl rfl | exact Or.inr rfl)) pgs_nil))) (pss_cons (ps_if (pt_cmpR op_eq (pe_ix ix_tup (pv 5) pe_int (fun _ _ => rfl)) (pe_glob (v := .str "stop") rfl T.ex.m_STOP ⟨_, rfl⟩) (nomark _)) (pss_one (ps_expr (pe_bm PySem.F.plainAttrs_list PySem.F.slot_list_append PySem.F.type_list_append mt_append (pv 1) (pa_tuple (pe_tup (pa_name (pv 4) (pa_sub (pe_ix ix_tup (pv 2) pe_int (fun _ _ => rfl)) (pa_sub (pe_ix ix_tup (pv 3) pe_int (fun _ _ => rfl)) (pa_sub (pe_ix ix_tup (pv 5) pe_int (fun _ _ => rfl)) (pa_sub (pe_ix ix_tup (pv 5) pe_int (fun _ _ => rfl)) pa_nil)))))) pa_nil)))) pss_nil) (pss_cons (ps_set (i := 6) sc_limits_of.nd rfl (Or.inl rfl) (pe_cB C_piece_of (hr.mono (by decide)) pass01 (pa_name (pv 5) pa_nil))) (pss_cons (ps_set (i := 2) sc_limits_of.nd rfl (Or.inl rfl) (pe_mB (k := 4) (pv 6) (hr.mono (by decide)) (pa_name (pv 2) pa_nil))) (pss_one (ps_set (i := 3) sc_limits_of.nd rfl (Or.inl rfl) (pe_mB (k := 4) (pv 6) (hr.mono (by decide)) (pa_name (pv 3) pa_nil)))))))) (pss_one (ps_ret (pv 1)))))))), ?_⟩
  refine ⟨_, rfl, _, ps, m, rfl, hb, g, by omega, fun H1 s1 => ?_⟩
  refine ⟨(by show 0 ≤ sizeLine; decide), fun l hl1 => ?_⟩
  have nl : H l = none := s1.free hl1
  have u0 := same_new hl1 (.lst [])
  have hl0 : upd H1 l (.lst []) l = some (.lst []) := upd_same
  generalize upd H1 l (.lst []) = H1' at u0 hl0 ⊢
  refine ⟨(by show 2 ≤ sizeLine; decide), fun p1 hp1 => ?_⟩
  have u1 := same_new hp1 (.tup [.ref ad.ONE, .ref ad.NOUGHT])
  have d1 : DV K (upd H1' p1 (.tup [.ref ad.ONE, .ref ad.NOUGHT])) (.ref p1) (rayD e1) := DV.upd2 hp1 (dO T _) (dN T _)
  refine ⟨(by show 2 ≤ sizeLine; decide), fun p2 hp2 => ?_⟩
  have u2 := same_new hp2 (.tup [.ref ad.NOUGHT, .ref ad.ONE])
  have d2 : DV K (upd (upd H1' p1 (.tup [.ref ad.ONE, .ref ad.NOUGHT])) p2 (.tup [.ref ad.NOUGHT, .ref ad.ONE])) (.ref p2) (rayD e2) := DV.upd2 hp2 (dN T _) (dO T _)
  have s2 := s1.trans (u0.trans (u1.trans u2))
  refine ⟨_, rfl, a, rfl, ⟨_, ha.keep s2⟩, ?_⟩
  refine for_enum (K := K) (a := a) (xs := xs) (fun i σ H' => ∃ c4 c5 c6 v1 v2 vs, σ = [some (.ref a), some (.ref l), some v1, some v2, c4, c5, c6] ∧ Same H H' ∧ H' l = some (.lst vs) ∧ DVs K H' vs ((lims (ps.take i)).map limD) ∧ DV K H' v1 (rayD (bend (ps.take i) e1)) ∧ DV K H' v2 (rayD (bend (ps.take i) e2)) ∧ RB (2 + i * (m + 1)) (bend (ps.take i) e1) ∧ RB (2 + i * (m + 1)) (bend (ps.take i) e2)) ⟨_, _, _, _, _, [], rfl, s2, (u1.trans u2) _ _ hl0, .nil, d1.keep u2, d2, by simpa [bend] using rb_e1, by simpa [bend] using rb_e2⟩ ?_ ?_ ?_
  · rintro i σ H' hi ⟨c4, c5, c6, v1, v2, vs, rfl, s3, _⟩
    exact ha.keep s3
  · rintro i x σ H' p hi ⟨c4, c5, c6, v1, v2, vs, rfl, s3, hlv, hvs, hv1, hv2, b1, b2⟩ hp
    obtain ⟨d, hd, hx⟩ := hxs.get hi
    obtain ⟨pc, hpc, rfl⟩ := get_map_pc hd
    have hmem := List.mem_of_getElem? hpc
    have hi' := lt_of_get hpc
    have bi := bi_le hnm hi'
    have up := same_new hp (.tup [.int i, x])
    have hx4 := hx.keep (s3.trans up)
    refine ⟨p, _, rfl, SqT.of upd_same, rfl, _, _, rfl, _, _, rfl, rfl, ?_⟩
    have et := bend_take hpc
    have el := lims_take hpc
    have vl : vs.length ≤ 60 := by
      have h1 := hvs.len
      rw [List.length_map] at h1
      have h2 := lims_len (ps.take i) 0 e1 e2
      rw [List.length_take] at h2
      unfold lims at h1
      omega
    -- what comes behind the list
    have fin : ∀ (vs' : List V) (H5 : Hp), Same H H5 → H5 l = some (.lst vs') → DVs K H5 vs' ((lims (ps.take (i + 1))).map limD) → DV K H5 v1 (rayD (bend (ps.take i) e1)) → DV K H5 v2 (rayD (bend (ps.take i) e2)) → DV K H5 x (pcD pc) → ∀ (o : Addr) H6, Same H5 H6 → ObAt K ad.Gap ad.Glass ad.Stop H6 (.ref o) pc → ∀ w1 H7, Same H6 H7 → DV K H7 w1 (rayD (pc.bent (bend (ps.take i) e1))) → ∀ w2 H8, Same H7 H8 → DV K H8 w2 (rayD (pc.bent (bend (ps.take i) e2))) →
        ∃ c4 c5 c6 v1 v2 vs, ([some (.ref a), some (.ref l), some w1, some w2, some (.int (i : Int)), some x, some (.ref o)] : St) = [some (.ref a), some (.ref l), some v1, some v2, c4, c5, c6] ∧ Same H H8 ∧ H8 l = some (.lst vs) ∧ DVs K H8 vs ((lims (ps.take (i + 1))).map limD) ∧ DV K H8 v1 (rayD (bend (ps.take (i + 1)) e1)) ∧ DV K H8 v2 (rayD (bend (ps.take (i + 1)) e2)) ∧ RB (2 + (i + 1) * (m + 1)) (bend (ps.take (i + 1)) e1) ∧ RB (2 + (i + 1) * (m + 1)) (bend (ps.take (i + 1)) e2) := by
      intro vs' H5 s5 hl5 hvs5 _ _ _ o H6 s6 _ w1 H7 s7 hw1 w2 H8 s8 hw2
      refine ⟨_, _, _, w1, w2, vs', rfl, s5.trans (s6.trans (s7.trans s8)), (s6.trans (s7.trans s8)) _ _ hl5, hvs5.keep (s6.trans (s7.trans s8)), ?_, ?_, ?_, ?_⟩
      · rw [et]; exact hw1.keep s8
      · rw [et]; exact hw2
      · rw [et]; exact Rb.mono (bent_rb (g.bd _ hmem) b1) (by rw [Nat.add_mul]; omega)
      · rw [et]; exact Rb.mono (bent_rb (g.bd _ hmem) b2) (by rw [Nat.add_mul]; omega)
    cases pc with
    | gap e =>
      obtain ⟨pa, z, z1, rfl, hpa, hz, hz1⟩ := DV.t2 hx4
      obtain rfl := hz.str_of
      refine ⟨_, rfl, pa, _, _, _, rfl, rfl, hpa, rfl, rfl, _, rfl, iteF' (by decide) ?_⟩
      refine ⟨_, rfl, _, .gap e, rfl, hx4, fun o H5 s5 ho => ?_⟩
      obtain ⟨oa, C, dx, fs, pps, sp, q1, q2, q3, M, hsp⟩ := ob_bent (P := P) (w := w) (base := base) T ho (hv1.keep (up.trans s5)) b1 (g.bd _ hmem) bi
      refine ⟨_, rfl, oa, C, dx, fs, pps, sp, q1, q2, q3, M, _, rfl, hsp _ (fun w1 H6 s6 hw1 => ?_)⟩
      obtain ⟨oa, C, dx, fs, pps, sp, q1, q2, q3, M, hsp⟩ := ob_bent (P := P) (w := w) (base := base) T (ho.keep s6) (hv2.keep (up.trans (s5.trans s6))) b2 (g.bd _ hmem) bi
      refine ⟨_, rfl, oa, C, dx, fs, pps, sp, q1, q2, q3, M, _, rfl, hsp _ (fun w2 H7 s7 hw2 => ?_)⟩
      exact fin vs _ (s3.trans up) (up _ _ hlv) (by rw [el]; show DVs K _ vs ((lims (ps.take i) ++ []).map limD); rw [List.append_nil]; exact hvs.keep up) (hv1.keep up) (hv2.keep up) hx4 o H5 s5 ho w1 H6 s6 hw1 w2 H7 s7 hw2
    | glass e =>
      obtain ⟨pa, z, z1, rfl, hpa, hz, hz1⟩ := DV.t2 hx4
      obtain rfl := hz.str_of
      refine ⟨_, rfl, pa, _, _, _, rfl, rfl, hpa, rfl, rfl, _, rfl, iteF' (by decide) ?_⟩
      refine ⟨_, rfl, _, .glass e, rfl, hx4, fun o H5 s5 ho => ?_⟩
      obtain ⟨oa, C, dx, fs, pps, sp, q1, q2, q3, M, hsp⟩ := ob_bent (P := P) (w := w) (base := base) T ho (hv1.keep (up.trans s5)) b1 (g.bd _ hmem) bi
      refine ⟨_, rfl, oa, C, dx, fs, pps, sp, q1, q2, q3, M, _, rfl, hsp _ (fun w1 H6 s6 hw1 => ?_)⟩
      obtain ⟨oa, C, dx, fs, pps, sp, q1, q2, q3, M, hsp⟩ := ob_bent (P := P) (w := w) (base := base) T (ho.keep s6) (hv2.keep (up.trans (s5.trans s6))) b2 (g.bd _ hmem) bi
      refine ⟨_, rfl, oa, C, dx, fs, pps, sp, q1, q2, q3, M, _, rfl, hsp _ (fun w2 H7 s7 hw2 => ?_)⟩
      exact fin vs _ (s3.trans up) (up _ _ hlv) (by rw [el]; show DVs K _ vs ((lims (ps.take i) ++ []).map limD); rw [List.append_nil]; exact hvs.keep up) (hv1.keep up) (hv2.keep up) hx4 o H5 s5 ho w1 H6 s6 hw1 w2 H7 s7 hw2
    | stop lo hi2 =>
      obtain ⟨pa, z, z1, z2, rfl, hpa, hz, hz1, hz2⟩ := DV.t3 hx4
      obtain rfl := hz.str_of
      have hlp := up _ _ hlv
      have k1 := hv1.keep up
      have k2 := hv2.keep up
      have hvsp := hvs.keep up
      have sp0 := s3.trans up
      generalize upd H' p (.tup [.int i, .ref pa]) = H4 at hpa hz hz1 hz2 hx4 hlp k1 k2 hvsp sp0 ⊢
      obtain ⟨ra, r1, r2, rfl, hra, hr1, hr2⟩ := DV.t2 k1
      obtain ⟨ta, t1, t2, rfl, hta, ht1, ht2⟩ := DV.t2 k2
      refine ⟨_, rfl, pa, _, _, _, rfl, rfl, hpa, rfl, rfl, _, rfl, iteT' (by decide) ?_⟩
      refine ⟨_, rfl, .inl ⟨rfl, _, SqL.of hlp⟩, ?_⟩
      refine ⟨_, rfl, _, rfl, ra, _, _, _, rfl, rfl, hra, rfl, _, rfl, ta, _, _, _, rfl, rfl, hta, rfl, _, rfl, pa, _, _, _, rfl, rfl, hpa, rfl, _, rfl, pa, _, _, _, rfl, rfl, hpa, rfl, (by show 5 ≤ sizeLine; decide), fun t5 ht5 => ?_⟩
      have d5 : DV K (upd H4 t5 (.tup [.int i, r1, t1, z1, z2])) (.ref t5) (limD ⟨i, (bend (ps.take i) e1).1, (bend (ps.take i) e2).1, lo, hi2⟩) := DV.upd5 ht5 (.int _) hr1 ht1 hz1 hz2
      have u5 := same_new ht5 (.tup [.int i, r1, t1, z1, z2])
      generalize upd H4 t5 (.tup [.int i, r1, t1, z1, z2]) = H5 at d5 u5 ⊢
      have hl5 := u5 _ _ hlp
      refine ⟨l, vs, _, rfl, rfl, hl5, small1000 (by omega), ?_⟩
      have uT := sameT_upd hl5 (.lst (vs ++ [.ref t5]))
      have sH : Same H (upd H5 l (.lst (vs ++ [.ref t5]))) := fun b o e => by
        rw [upd_ne (ne_of_none e nl)]
        exact (sp0.trans u5) _ _ e
      have hv6 : DVs K (upd H5 l (.lst (vs ++ [.ref t5]))) (vs ++ [.ref t5]) ((lims (ps.take (i + 1))).map limD) := by
        rw [el, List.map_append]
        exact dvs_keepT uT (by rw [← List.map_append]; exact noLs_map noL_lim _) ((hvsp.keep u5).append (.cons d5 .nil))
      have k16 : DV K (upd H5 l (.lst (vs ++ [.ref t5]))) (.ref ra) (rayD (bend (ps.take i) e1)) := dv_keepT uT (noL_ray _) (k1.keep u5)
      have k26 : DV K (upd H5 l (.lst (vs ++ [.ref t5]))) (.ref ta) (rayD (bend (ps.take i) e2)) := dv_keepT uT (noL_ray _) (k2.keep u5)
      have hx6 : DV K (upd H5 l (.lst (vs ++ [.ref t5]))) (.ref pa) (pcD (.stop lo hi2)) := dv_keepT uT (noL_pc _) (hx4.keep u5)
      have hl6 : upd H5 l (.lst (vs ++ [.ref t5])) l = some (.lst (vs ++ [.ref t5])) := upd_same
      generalize upd H5 l (.lst (vs ++ [.ref t5])) = H6 at sH hv6 k16 k26 hx6 hl6 ⊢
      refine ⟨_, rfl, _, .stop lo hi2, rfl, hx6, fun o H7 s7 ho => ?_⟩
      obtain ⟨oa, C, dx, fs, pps, sp, q1, q2, q3, M, hsp⟩ := ob_bent (P := P) (w := w) (base := base) T ho (k16.keep s7) b1 (g.bd _ hmem) bi
      refine ⟨_, rfl, oa, C, dx, fs, pps, sp, q1, q2, q3, M, _, rfl, hsp _ (fun w1 H8 s8 hw1 => ?_)⟩
      obtain ⟨oa, C, dx, fs, pps, sp, q1, q2, q3, M, hsp⟩ := ob_bent (P := P) (w := w) (base := base) T (ho.keep s8) (k26.keep (s7.trans s8)) b2 (g.bd _ hmem) bi
      refine ⟨_, rfl, oa, C, dx, fs, pps, sp, q1, q2, q3, M, _, rfl, hsp _ (fun w2 H9 s9 hw2 => ?_)⟩
      exact fin _ _ sH hl6 hv6 k16 k26 hx6 o H7 s7 ho w1 H8 s8 hw1 w2 H9 s9 hw2
  · rintro σ H' ⟨c4, c5, c6, v1, v2, vs, rfl, s3, hlv, hvs, _⟩
    rw [hl, List.take_length] at hvs
    exact ⟨_, rfl, q l vs _ s3 nl hlv hvs⟩
end
end K50
namespace K50
open PySem L2 Lib Fr Op
seal PE PT PW PA PS PSs PG PGs PI PO PIfs
local macro_rules | `(tactic| walk_at "Zs") => `(tactic| first | with_reducible assumption | with_reducible exact Same.refl _ | exact zs1 (by with_reducible assumption) (by walk_at "Zs") | exact zs2 (by with_reducible assumption) (by walk_at "Zs"))
local macro_rules | `(tactic| walk_at "Zd") => `(tactic| first | with_reducible assumption | with_reducible exact DV.int _ | with_reducible exact DV.str _ | with_reducible exact DV.bl _ | with_reducible exact DV.non | exact zd1 (by first | with_reducible assumption | assumption) (by walk_at "Zs") | with_reducible exact dN (by assumption) _ | with_reducible exact dO (by assumption) _ | exact zd2 (by with_reducible assumption) (by walk_at "Zs") (by walk_at "Zd") (by walk_at "Zd") | exact zd3 (by with_reducible assumption) (by walk_at "Zs") (by walk_at "Zd") (by walk_at "Zd") (by walk_at "Zd") | exact zd4 (by with_reducible assumption) (by walk_at "Zs") (by walk_at "Zd") (by walk_at "Zd") (by walk_at "Zd") (by walk_at "Zd"))
local macro_rules | `(tactic| walk_at "Zt") => `(tactic| first | assumption | exact zt1 (by assumption) (by walk_at "Zs") | exact zt2 (by walk_at "Zs"))
local macro_rules | `(tactic| walk_at "Zl") => `(tactic| first | assumption | exact zl1 (by assumption) (by walk_at "Zs") | exact zl2 (by walk_at "Zs"))
local macro_rules | `(tactic| walk_at "Zv") => `(tactic| first | exact DVs.nil | exact DVs.cons (by walk_at "Zd") (by walk_at "Zv"))
local macro_rules | `(tactic| walk_at "Zb") => `(tactic| first | with_reducible assumption | exact bd_zero 1 (by decide) | exact bd_one 1 (by decide) | with_reducible exact Bd.mul (by walk_at "Zb") (by walk_at "Zb") | with_reducible exact Bd.add (by walk_at "Zb") (by walk_at "Zb") | with_reducible exact Bd.sub (by walk_at "Zb") (by walk_at "Zb") | with_reducible exact Tb.a (by with_reducible assumption) | with_reducible exact Tb.b (by with_reducible assumption) | with_reducible exact Tb.c (by with_reducible assumption) | with_reducible exact Tb.d (by with_reducible assumption) | with_reducible exact Rb.y (by with_reducible assumption) | with_reducible exact Rb.u (by with_reducible assumption))
local macro_rules | `(tactic| walk_at "Zm") => `(tactic| first | with_reducible assumption | with_reducible exact Sm.zero | with_reducible exact Sm.one | exact Bd.sm (by walk_at "Zb") (by first | decide | omega))
local macro_rules | `(tactic| walk_at "Zr") => `(tactic| first | exact ⟨_, _, rfl, by walk_at "Zm", by walk_at "Zm", rfl⟩ | exact ⟨_, _, rfl, by walk_at "Zm", by walk_at "Zm", by assumption, rfl⟩)
local macro_rules | `(tactic| walk_at "Zc") => `(tactic| (refine ⟨_, _, by walk_at "Zv", by walk_at "Zr", fun v H' s hv => ?_⟩; (first | (obtain rfl := DV.bl_of hv) | (have := (show DV _ _ _ (frD _) from hv); clear this) | (obtain ⟨a, x1, x2, x3, x4, rfl, ha, h1, h2, h3, h4⟩ := DV.t4 hv) | (obtain ⟨a, x1, x2, x3, rfl, ha, h1, h2, h3⟩ := DV.t3 hv) | (obtain ⟨a, x1, x2, rfl, ha, h1, h2⟩ := DV.t2 hv) | skip)))
local macro_rules | `(tactic| walk_at "Zp") => `(tactic| first | refine ⟨by (show 2 ≤ sizeLine; decide), fun p hp => ?_⟩ | refine ⟨by (show 3 ≤ sizeLine; decide), fun p hp => ?_⟩ | refine ⟨by (show 4 ≤ sizeLine; decide), fun p hp => ?_⟩)
local macro_rules | `(tactic| walk_at "Zn") => `(tactic| first | refine ⟨_, rfl, ?_⟩ | refine ⟨_, _, _, _, rfl, rfl, by walk_at "Zt", by rfl, ?_⟩ | refine ⟨_, _, rfl, rfl, ?_⟩)
local macro_rules | `(tactic| walk_at "Z1") => `(tactic| first | walk_at "Zn" | walk_at "Zp" | walk_at "Zc" | refine iteF ?_ | refine iteT ?_)
local macro_rules | `(tactic| walk_at "Z") => `(tactic| repeat walk_at "Z1")
section
variable {P : Program} {w : World} {K : PySem.W.Frag} {mg : Str → Option Value} {base : Heap} {ad : Adr} {c : Bool}
theorem c_in_order (T : Txt K mg ad) : CalB P w K mg base true 2 "in_order" ["one", "other"] (PR K ROrd) := by
  have C_is_less := c_is_less (P := P) (w := w) (base := base) T
  refine T.t_in_order.calN sc_in_order (fun _ _ _ _ _ _ => by2 fun _ _ => rfl) (fun vs H Q E h => ?_) (fun f cdv A outer s H vs Q E hr h => ?_)
  · obtain ⟨_, _, dv, ⟨_, _, rfl, _⟩, _⟩ := h; exact dv.len
  obtain ⟨_, _, dv, ⟨p, q, rfl, sp, sq, rfl⟩, k⟩ := h
  obtain ⟨x, y, rfl, hx, hy⟩ := dv.two
  refine ⟨_, (pss_one (ps_ret (pe_ifExp (pt_val (pe_cB C_is_less (hr.mono (by decide)) pass01 (pa_name (pv 1) (pa_name (pv 0) pa_nil)))) (pe_tup (pa_name (pv 1) (pa_name (pv 0) pa_nil))) (pe_tup (pa_name (pv 0) (pa_name (pv 1) pa_nil)))))), ?_⟩
  refine ⟨_, rfl, _, rfl, _, _, by walk_at "Zv", ⟨_, _, rfl, sq, sp, rfl⟩, fun v1 H1 s1 hv1 => ?_⟩
  obtain rfl := hv1.bl_of
  refine ⟨_, rfl, ?_⟩
  unfold ordD at k
  by_cases c : q < p
  · rw [if_pos c] at k
    refine iteT' (decide_eq_true c) ⟨_, rfl, _, rfl, (by show 2 ≤ sizeLine; decide), fun p2 hp2 => ?_⟩
    exact k _ _ (s1.trans (same_new hp2 _)) (DV.upd2 hp2 (hy.keep s1) (hx.keep s1))
  · rw [if_neg c] at k
    refine iteF' (decide_eq_false c) ⟨_, rfl, _, rfl, (by show 2 ≤ sizeLine; decide), fun p2 hp2 => ?_⟩
    exact k _ _ (s1.trans (same_new hp2 _)) (DV.upd2 hp2 (hx.keep s1) (hy.keep s1))
theorem c_height_at (T : Txt K mg ad) : CalB P w K mg base true 5 "height_at" ["table", "lamp", "slant", "t"] (PR K RHgt) := by
  have C_made_by := c_made_by (P := P) (w := w) (base := base) T
  have M_Gap := k_Gap (P := P) (w := w) (base := base) T
  refine T.t_height_at.calN sc_height_at (fun _ _ _ _ _ _ => by4 fun _ _ _ _ => rfl) (fun vs H Q E h => ?_) (fun f cdv A outer s H vs Q E hr h => ?_)
  · obtain ⟨_, _, dv, ⟨_, _, _, _, _, _, _, _, rfl, _⟩, _⟩ := h; exact dv.len
  obtain ⟨_, _, dv, ⟨t, h0, s0, u, T0, n, m, k0, rfl, tb, bh, bs, bu, bT, le, rfl⟩, k⟩ := h
  obtain ⟨x1, x2, x3, x4, rfl, h1, h2, h3, h4⟩ := dv.four
  obtain ⟨la, l1, l2, rfl, hla, hl1, hl2⟩ := DV.t2 (show DV K H x2 (.tuple [frD h0, frD s0]) from h2)
  refine ⟨_, (pss_cons (ps_set (i := 4) sc_height_at.nd rfl (Or.inl rfl) (pe_mB (k := 4) (pe_mkB M_Gap (hr.mono (by decide)) (pa_sub (pe_ix ix_tup (pv 1) pe_int (fun _ _ => rfl)) pa_nil)) (hr.mono (by decide)) (pa_tuple (pe_tup (pa_sub (pe_ix ix_tup (pv 1) pe_int (fun _ _ => rfl)) (pa_name (pv 2) pa_nil))) pa_nil))) (pss_one (ps_ret (pe_ix ix_tup (pe_mB (k := 4) (pe_mkB M_Gap (hr.mono (by decide)) (pa_name (pv 3) pa_nil)) (hr.mono (by decide)) (pa_call (pe_cB C_made_by (hr.mono (by decide)) pass01 (pa_name (pv 0) (pa_name (pv 4) pa_nil))) pa_nil)) pe_int (fun _ _ => rfl))))), ?_⟩
  refine ⟨_, rfl, la, _, _, _, rfl, rfl, hla, rfl, fun o dx ho hdx hne => ⟨o, dx, l2, rfl, upd_same, rfl, ?_⟩⟩
  have s1 : Same H (upd H dx (.own o)) := same_new hdx _
  have ho' : upd H dx (.own o) o = none := by rw [upd_ne (Ne.symm hne)]; exact ho
  have s2 := s1.trans (same_new ho' (.ins ad.Gap dx [("length", l2)]))
  rw [upd_upd]
  have hO : upd (upd H dx (.own o)) o (.ins ad.Gap dx [("length", l2)]) o = some (.ins ad.Gap dx [("length", l2)]) := upd_same
  clear s1 ho'
  generalize upd (upd H dx (.own o)) o (.ins ad.Gap dx [("length", l2)]) = H2 at s2 hO ⊢
  have hl12 := hl1.keep s2
  have h32 := h3.keep s2
  refine ⟨o, _, dx, _, _, _, rfl, hO, rfl, mc_Gap_bent (P := P) (w := w) (base := base) T, ?_⟩
  refine ⟨_, rfl, la, _, _, _, rfl, rfl, hla.keep s2, rfl, _, rfl, (by show 2 ≤ sizeLine; decide), fun p3 hp3 => ?_⟩
  have u3 := same_new hp3 (.tup [l1, x3])
  have d3 : DV K (upd H2 p3 (.tup [l1, x3])) (.ref p3) (rayD (h0, u)) := DV.upd2 hp3 hl12 h32
  generalize upd H2 p3 (.tup [l1, x3]) = H3 at u3 d3 ⊢
  refine ⟨.ref o, .ref p3, .gap s0, (h0, u), m + m, m, rfl, trivial, .gap (u3 _ _ hO) (hl2.keep (s2.trans u3)), d3, Rb.of bh bu, bs, by omega, fun v4 H4 s4 hv4 => ?_⟩
  have hv4 : DV K H4 v4 (rayD (lray h0 s0 u)) := hv4
  have by1 : Bd (3 * m + 1) (h0 + s0 * u) := (bh.add (bs.mul bu)).mono (by omega)
  have y1 : Bd (2 * n + 4 * m + 2) (t.by (lray h0 s0 u)).1 := ((tb.a.mul by1).add (tb.b.mul bu)).mono (by omega)
  have y2 : Bd (2 * n + 4 * m + 2) (t.by (lray h0 s0 u)).2 := ((tb.c.mul by1).add (tb.d.mul bu)).mono (by omega)
  -- the screen
  refine ⟨_, rfl, fun o5 dx5 ho5 hdx5 hne5 => ⟨o5, dx5, x4, rfl, upd_same, rfl, ?_⟩⟩
  have s5 : Same H4 (upd H4 dx5 (.own o5)) := same_new hdx5 _
  have ho5' : upd H4 dx5 (.own o5) o5 = none := by rw [upd_ne (Ne.symm hne5)]; exact ho5
  have s6 := s5.trans (same_new ho5' (.ins ad.Gap dx5 [("length", x4)]))
  rw [upd_upd]
  have hO6 : upd (upd H4 dx5 (.own o5)) o5 (.ins ad.Gap dx5 [("length", x4)]) o5 = some (.ins ad.Gap dx5 [("length", x4)]) := upd_same
  clear s5 ho5'
  generalize upd (upd H4 dx5 (.own o5)) o5 (.ins ad.Gap dx5 [("length", x4)]) = H6 at s6 hO6 ⊢
  refine ⟨o5, _, dx5, _, _, _, rfl, hO6, rfl, mc_Gap_bent (P := P) (w := w) (base := base) T, ?_⟩
  refine ⟨_, rfl, _, rfl, _, _, by walk_at "Zv", ⟨t, lray h0 s0 u, n + 3 * m + 1, rfl, Tb.mono tb (by omega), by1.mono (by omega), bu.mono (by omega), by omega, rfl⟩, fun v7 H7 s7 hv7 => ?_⟩
  refine ⟨.ref o5, v7, .gap T0, t.by (lray h0 s0 u), _, k0, rfl, trivial, .gap (s7 _ _ hO6) (show DV K H7 x4 _ from by walk_at "Zd"), hv7, Rb.of y1 y2, bT, by omega, fun v8 H8 s8 hv8 => ?_⟩
  have hv8 : DV K H8 v8 (rayD ((Pc.gap T0).bent (t.by (lray h0 s0 u)))) := hv8
  obtain ⟨ga, g1, g2, rfl, hga, hg1, hg2⟩ := DV.t2 hv8
  refine ⟨ga, _, _, _, rfl, rfl, hga, rfl, ?_⟩
  exact k _ _ (by walk_at "Zs") hg1
theorem c_spots_of (T : Txt K mg ad) : CalB P w K mg base true 6 "spots_of" ["bench", "lamp", "slants", "t"] (PR K RSpots) := by
  have C_table_of := c_table_of (P := P) (w := w) (base := base) T
  have C_in_order := c_in_order (P := P) (w := w) (base := base) T
  have C_height_at := c_height_at (P := P) (w := w) (base := base) T
  refine T.t_spots_of.calN sc_spots_of (fun _ _ _ _ _ _ => by4 fun _ _ _ _ => rfl) (fun vs H Q E h => ?_) (fun f cdv A outer s H vs Q E hr h => ?_)
  · obtain ⟨_, _, dv, ⟨_, _, _, _, _, _, _, _, _, rfl, _⟩, _⟩ := h; exact dv.len
  obtain ⟨_, _, dv, ⟨ps, h0, s0, u0, u1, T0, n, m, k0, rfl, g, bh, bs, b0, b1, bT, le, rfl⟩, k⟩ := h
  obtain ⟨x1, x2, x3, x4, rfl, h1, h2, h3, h4⟩ := dv.four
  obtain ⟨sa, t1, t2, rfl, hsa, ht1, ht2⟩ := DV.t2 (show DV K H x3 (.tuple [frD u0, frD u1]) from h3)
  have tb := tab_bd (m := n) g.bd
  have tb' : Tb (2 + ps.length * (n + 1) + n) (tabOf ps) := Tb.mono tb (by omega)
  have e0 := hgt_bd tb' bh bs b0 bT
  have e1 := hgt_bd tb' bh bs b1 bT
  refine ⟨_, (pss_cons (ps_set (i := 4) sc_spots_of.nd rfl (Or.inl rfl) (pe_cB C_table_of (hr.mono (by decide)) pass01 (pa_name (pv 0) pa_nil))) (pss_one (ps_ret (pe_cB C_in_order (hr.mono (by decide)) pass01 (pa_call (pe_cB C_height_at (hr.mono (by decide)) pass01 (pa_name (pv 4) (pa_name (pv 1) (pa_sub (pe_ix ix_tup (pv 2) pe_int (fun _ _ => rfl)) (pa_name (pv 3) pa_nil))))) (pa_call (pe_cB C_height_at (hr.mono (by decide)) pass01 (pa_name (pv 4) (pa_name (pv 1) (pa_sub (pe_ix ix_tup (pv 2) pe_int (fun _ _ => rfl)) (pa_name (pv 3) pa_nil))))) pa_nil)))))), ?_⟩
  refine ⟨_, rfl, _, _, by walk_at "Zv", ⟨ps, n, rfl, g, by omega, rfl⟩, fun v5 H5 s5 hv5 => ?_⟩
  refine ⟨_, rfl, _, rfl, _, rfl, sa, _, _, _, rfl, rfl, hsa.keep s5, rfl, _, rfl, _, _, by walk_at "Zv", ⟨_, h0, s0, u0, T0, _, m, k0, rfl, tb', bh, bs, b0, bT, by omega, rfl⟩, fun v6 H6 s6 hv6 => ?_⟩
  refine ⟨_, rfl, _, rfl, _, rfl, sa, _, _, _, rfl, rfl, hsa.keep (s5.trans s6), rfl, _, rfl, _, _, by walk_at "Zv", ⟨_, h0, s0, u1, T0, _, m, k0, rfl, tb', bh, bs, b1, bT, by omega, rfl⟩, fun v7 H7 s7 hv7 => ?_⟩
  exact ⟨_, _, by walk_at "Zv", ⟨_, _, rfl, e0.sm (by omega), e1.sm (by omega), rfl⟩, fun v8 H8 s8 hv8 => k _ _ (by walk_at "Zs") hv8⟩
theorem c_blur_of (T : Txt K mg ad) : CalB P w K mg base true 7 "blur_of" ["bench", "lamp", "slants", "t"] (PR K RBlur) := by
  have C_spots_of := c_spots_of (P := P) (w := w) (base := base) T
  have C_less_by := c_less_by (P := P) (w := w) (base := base) T
  refine T.t_blur_of.calN sc_blur_of (fun _ _ _ _ _ _ => by4 fun _ _ _ _ => rfl) (fun vs H Q E h => ?_) (fun f cdv A outer s H vs Q E hr h => ?_)
  · obtain ⟨_, _, dv, ⟨_, _, _, _, _, _, _, _, _, rfl, _⟩, _⟩ := h; exact dv.len
  obtain ⟨_, _, dv, ⟨ps, h0, s0, u0, u1, T0, n, m, k0, rfl, g, bh, bs, b0, b1, bT, le, rfl⟩, k⟩ := h
  obtain ⟨x1, x2, x3, x4, rfl, h1, h2, h3, h4⟩ := dv.four
  have tb := tab_bd (m := n) g.bd
  have tb' : Tb (2 + ps.length * (n + 1) + n) (tabOf ps) := Tb.mono tb (by omega)
  have e0 := hgt_bd tb' bh bs b0 bT
  have e1 := hgt_bd tb' bh bs b1 bT
  refine ⟨_, (pss_cons (ps_set (i := 4) sc_blur_of.nd rfl (Or.inl rfl) (pe_cB C_spots_of (hr.mono (by decide)) pass01 (pa_name (pv 0) (pa_name (pv 1) (pa_name (pv 2) (pa_name (pv 3) pa_nil)))))) (pss_one (ps_ret (pe_cB C_less_by (hr.mono (by decide)) pass01 (pa_sub (pe_ix ix_tup (pv 4) pe_int (fun _ _ => rfl)) (pa_sub (pe_ix ix_tup (pv 4) pe_int (fun _ _ => rfl)) pa_nil)))))), ?_⟩
  refine ⟨_, rfl, _, rfl, _, rfl, _, rfl, _, _, by walk_at "Zv", ⟨ps, h0, s0, u0, u1, T0, n, m, k0, rfl, g, bh, bs, b0, b1, bT, le, rfl⟩, fun v5 H5 s5 hv5 => ?_⟩
  have hv5 := ord_dv hv5
  obtain ⟨sa, t1, t2, rfl, hsa, ht1, ht2⟩ := DV.t2 (show DV K H5 v5 (.tuple [frD _, frD _]) from hv5)
  refine ⟨_, rfl, sa, _, _, _, rfl, rfl, hsa, rfl, _, rfl, sa, _, _, _, rfl, rfl, hsa, rfl, ?_⟩
  generalize hgt (tabOf ps) h0 s0 u0 T0 = y0 at e0 ht1 ht2 k
  generalize hgt (tabOf ps) h0 s0 u1 T0 = y1 at e1 ht1 ht2 k
  by_cases c : y1 < y0
  · rw [if_pos c] at ht1 ht2 k
    exact ⟨_, _, .cons ht2 (.cons ht1 .nil), ⟨_, _, rfl, e0.sm (by omega), e1.sm (by omega), rfl⟩, fun v6 H6 s6 hv6 => k _ _ (s5.trans s6) hv6⟩
  · rw [if_neg c] at ht1 ht2 k
    exact ⟨_, _, .cons ht2 (.cons ht1 .nil), ⟨_, _, rfl, e1.sm (by omega), e0.sm (by omega), rfl⟩, fun v6 H6 s6 hv6 => k _ _ (s5.trans s6) hv6⟩
end
end K50
namespace K50
open PySem L2 Lib Fr Op
seal PE PT PW PA PS PSs PG PGs PI PO PIfs
local macro_rules | `(tactic| walk_at "Zs") => `(tactic| first | with_reducible assumption | with_reducible exact Same.refl _ | exact zs1 (by with_reducible assumption) (by walk_at "Zs") | exact zs2 (by with_reducible assumption) (by walk_at "Zs"))
local macro_rules | `(tactic| walk_at "Zd") => `(tactic| first | with_reducible assumption | with_reducible exact DV.int _ | with_reducible exact DV.str _ | with_reducible exact DV.bl _ | with_reducible exact DV.non | exact zd1 (by first | with_reducible assumption | assumption) (by walk_at "Zs") | with_reducible exact dN (by assumption) _ | with_reducible exact dO (by assumption) _ | exact zd2 (by with_reducible assumption) (by walk_at "Zs") (by walk_at "Zd") (by walk_at "Zd") | exact zd3 (by with_reducible assumption) (by walk_at "Zs") (by walk_at "Zd") (by walk_at "Zd") (by walk_at "Zd") | exact zd4 (by with_reducible assumption) (by walk_at "Zs") (by walk_at "Zd") (by walk_at "Zd") (by walk_at "Zd") (by walk_at "Zd"))
local macro_rules | `(tactic| walk_at "Zt") => `(tactic| first | assumption | exact zt1 (by assumption) (by walk_at "Zs") | exact zt2 (by walk_at "Zs"))
local macro_rules | `(tactic| walk_at "Zl") => `(tactic| first | assumption | exact zl1 (by assumption) (by walk_at "Zs") | exact zl2 (by walk_at "Zs"))
local macro_rules | `(tactic| walk_at "Zv") => `(tactic| first | exact DVs.nil | exact DVs.cons (by walk_at "Zd") (by walk_at "Zv"))
local macro_rules | `(tactic| walk_at "Zb") => `(tactic| first | with_reducible assumption | exact bd_zero 1 (by decide) | exact bd_one 1 (by decide) | with_reducible exact Bd.mul (by walk_at "Zb") (by walk_at "Zb") | with_reducible exact Bd.add (by walk_at "Zb") (by walk_at "Zb") | with_reducible exact Bd.sub (by walk_at "Zb") (by walk_at "Zb") | with_reducible exact Tb.a (by with_reducible assumption) | with_reducible exact Tb.b (by with_reducible assumption) | with_reducible exact Tb.c (by with_reducible assumption) | with_reducible exact Tb.d (by with_reducible assumption) | with_reducible exact Rb.y (by with_reducible assumption) | with_reducible exact Rb.u (by with_reducible assumption))
local macro_rules | `(tactic| walk_at "Zm") => `(tactic| first | with_reducible assumption | with_reducible exact Sm.zero | with_reducible exact Sm.one | exact Bd.sm (by walk_at "Zb") (by first | decide | omega))
local macro_rules | `(tactic| walk_at "Zr") => `(tactic| first | exact ⟨_, _, rfl, by walk_at "Zm", by walk_at "Zm", rfl⟩ | exact ⟨_, _, rfl, by walk_at "Zm", by walk_at "Zm", by assumption, rfl⟩)
local macro_rules | `(tactic| walk_at "Zc") => `(tactic| (refine ⟨_, _, by walk_at "Zv", by walk_at "Zr", fun v H' s hv => ?_⟩; (first | (obtain rfl := DV.bl_of hv) | (have := (show DV _ _ _ (frD _) from hv); clear this) | (obtain ⟨a, x1, x2, x3, x4, rfl, ha, h1, h2, h3, h4⟩ := DV.t4 hv) | (obtain ⟨a, x1, x2, x3, rfl, ha, h1, h2, h3⟩ := DV.t3 hv) | (obtain ⟨a, x1, x2, rfl, ha, h1, h2⟩ := DV.t2 hv) | skip)))
local macro_rules | `(tactic| walk_at "Zp") => `(tactic| first | refine ⟨by (show 2 ≤ sizeLine; decide), fun p hp => ?_⟩ | refine ⟨by (show 3 ≤ sizeLine; decide), fun p hp => ?_⟩ | refine ⟨by (show 4 ≤ sizeLine; decide), fun p hp => ?_⟩)
local macro_rules | `(tactic| walk_at "Zn") => `(tactic| first | refine ⟨_, rfl, ?_⟩ | refine ⟨_, _, _, _, rfl, rfl, by walk_at "Zt", by rfl, ?_⟩ | refine ⟨_, _, rfl, rfl, ?_⟩)
local macro_rules | `(tactic| walk_at "Z1") => `(tactic| first | walk_at "Zn" | walk_at "Zp" | walk_at "Zc" | refine iteF ?_ | refine iteT ?_)
local macro_rules | `(tactic| walk_at "Z") => `(tactic| repeat walk_at "Z1")
section
variable {P : Program} {w : World} {K : PySem.W.Frag} {mg : Str → Option Value} {base : Heap} {ad : Adr} {c : Bool}
theorem c_lesser_of (T : Txt K mg ad) : CalB P w K mg base true 3 "lesser_of" ["one", "other"] (PR K RMn) := by
  have C_in_order := c_in_order (P := P) (w := w) (base := base) T
  refine T.t_lesser_of.calN sc_lesser_of (fun _ _ _ _ _ _ => by2 fun _ _ => rfl) (fun vs H Q E h => ?_) (fun f cdv A outer s H vs Q E hr h => ?_)
  · obtain ⟨_, _, dv, ⟨_, _, rfl, _⟩, _⟩ := h; exact dv.len
  obtain ⟨_, _, dv, ⟨p, q, rfl, sp, sq, rfl⟩, k⟩ := h
  obtain ⟨x, y, rfl, hx, hy⟩ := dv.two
  refine ⟨_, (pss_one (ps_ret (pe_ix ix_tup (pe_cB C_in_order (hr.mono (by decide)) pass01 (pa_name (pv 0) (pa_name (pv 1) pa_nil))) pe_int (fun _ _ => rfl)))), ?_⟩
  refine ⟨_, rfl, _, rfl, _, _, by walk_at "Zv", ⟨_, _, rfl, sp, sq, rfl⟩, fun v1 H1 s1 hv1 => ?_⟩
  rw [ord_pair] at hv1
  obtain ⟨a, x1, x2, rfl, ha, h1, h2⟩ := DV.t2 (show DV K H1 v1 (.tuple [frD _, frD _]) from hv1)
  exact ⟨a, _, _, _, rfl, rfl, ha, rfl, k _ _ s1 h1⟩
theorem c_greater_of (T : Txt K mg ad) : CalB P w K mg base true 3 "greater_of" ["one", "other"] (PR K RMx) := by
  have C_in_order := c_in_order (P := P) (w := w) (base := base) T
  refine T.t_greater_of.calN sc_greater_of (fun _ _ _ _ _ _ => by2 fun _ _ => rfl) (fun vs H Q E h => ?_) (fun f cdv A outer s H vs Q E hr h => ?_)
  · obtain ⟨_, _, dv, ⟨_, _, rfl, _⟩, _⟩ := h; exact dv.len
  obtain ⟨_, _, dv, ⟨p, q, rfl, sp, sq, rfl⟩, k⟩ := h
  obtain ⟨x, y, rfl, hx, hy⟩ := dv.two
  refine ⟨_, (pss_one (ps_ret (pe_ix ix_tup (pe_cB C_in_order (hr.mono (by decide)) pass01 (pa_name (pv 0) (pa_name (pv 1) pa_nil))) pe_int (fun _ _ => rfl)))), ?_⟩
  refine ⟨_, rfl, _, rfl, _, _, by walk_at "Zv", ⟨_, _, rfl, sp, sq, rfl⟩, fun v1 H1 s1 hv1 => ?_⟩
  rw [ord_pair] at hv1
  obtain ⟨a, x1, x2, rfl, ha, h1, h2⟩ := DV.t2 (show DV K H1 v1 (.tuple [frD _, frD _]) from hv1)
  exact ⟨a, _, _, _, rfl, rfl, ha, rfl, k _ _ s1 h2⟩
theorem mxB {B : Nat} {p q : Rat} (h : Bd B p) (k : Bd B q) : Bd B (mx p q) := by rcases mx_or p q with e | e <;> rw [e] <;> assumption
theorem mnB {B : Nat} {p q : Rat} (h : Bd B p) (k : Bd B q) : Bd B (mn p q) := by rcases mn_or p q with e | e <;> rw [e] <;> assumption
theorem c_slants_by (T : Txt K mg ad) : CalB P w K mg base true 4 "slants_by" ["limit", "lamp", "first", "last"] (PR K RSlBy) := by
  have C_product_of := c_product_of (P := P) (w := w) (base := base) T
  have C_sum_of := c_sum_of (P := P) (w := w) (base := base) T
  have C_less_by := c_less_by (P := P) (w := w) (base := base) T
  have C_quotient_of := c_quotient_of (P := P) (w := w) (base := base) T
  have C_is_less := c_is_less (P := P) (w := w) (base := base) T
  have C_in_order := c_in_order (P := P) (w := w) (base := base) T
  have C_greater_of := c_greater_of (P := P) (w := w) (base := base) T
  have C_lesser_of := c_lesser_of (P := P) (w := w) (base := base) T
  refine T.t_slants_by.calN sc_slants_by (fun _ _ _ _ _ _ => by4 fun _ _ _ _ => rfl) (fun vs H Q E h => ?_) (fun f cdv A outer s H vs Q E hr h => ?_)
  · obtain ⟨_, _, dv, ⟨_, _, _, _, _, _, _, _, rfl, _⟩, _⟩ := h; exact dv.len
  obtain ⟨_, _, dv, ⟨l, h0, s0, f0, g0, n, m, B, rfl, lo, bh, bs, bf, bg, hB, hB2, rfl⟩, k⟩ := h
  obtain ⟨x1, x2, x3, x4, rfl, h1, h2, h3, h4⟩ := dv.four
  obtain ⟨ba, bb, blo, bhi, _⟩ := lo
  obtain ⟨la, y1, y2, y3, y4, rfl, hla, k1, k2, k3, k4⟩ := DV.t5 h1
  obtain ⟨pa, z1, z2, rfl, hpa, m1, m2⟩ := DV.t2 (show DV K H x2 (.tuple [frD h0, frD s0]) from h2)
  refine ⟨_, (pss_cons (ps_set (i := 4) sc_slants_by.nd rfl (Or.inl rfl) (pe_cB C_product_of (hr.mono (by decide)) pass01 (pa_sub (pe_ix ix_tup (pv 0) pe_int (fun _ _ => rfl)) (pa_sub (pe_ix ix_tup (pv 1) pe_int (fun _ _ => rfl)) pa_nil)))) (pss_cons (ps_set (i := 5) sc_slants_by.nd rfl (Or.inl rfl) (pe_cB C_sum_of (hr.mono (by decide)) pass01 (pa_call (pe_cB C_product_of (hr.mono (by decide)) pass01 (pa_sub (pe_ix ix_tup (pv 0) pe_int (fun _ _ => rfl)) (pa_sub (pe_ix ix_tup (pv 1) pe_int (fun _ _ => rfl)) pa_nil))) (pa_sub (pe_ix ix_tup (pv 0) pe_int (fun _ _ => rfl)) pa_nil)))) (pss_cons (ps_set (i := 6) sc_slants_by.nd rfl (Or.inl rfl) (pe_cB C_less_by (hr.mono (by decide)) pass01 (pa_sub (pe_ix ix_tup (pv 0) pe_int (fun _ _ => rfl)) (pa_name (pv 4) pa_nil)))) (pss_cons (ps_set (i := 7) sc_slants_by.nd rfl (Or.inl rfl) (pe_cB C_less_by (hr.mono (by decide)) pass01 (pa_sub (pe_ix ix_tup (pv 0) pe_int (fun _ _ => rfl)) (pa_name (pv 4) pa_nil)))) (pss_cons (ps_if (pt_cmpR (op_eqD hr.units) (pv 5) (pe_glob (v := .ref ad.NOUGHT) rfl T.ex.m_NOUGHT rfl) (nomark _)) (pss_one (ps_ret (pe_ifExp (PW.pt (pw_and (pt_not (pt_val (pe_cB C_is_less (hr.mono (by decide)) pass01 (pa_name (pe_glob (v := .ref ad.NOUGHT) rfl T.ex.m_NOUGHT rfl) (pa_name (pv 6) pa_nil))))) (pw_and1 (pt_not (pt_val (pe_cB C_is_less (hr.mono (by decide)) pass01 (pa_name (pv 7) (pa_name (pe_glob (v := .ref ad.NOUGHT) rfl T.ex.m_NOUGHT rfl) pa_nil)))))))) (pe_tup (pa_name (pv 2) (pa_name (pv 3) pa_nil))) pe_non))) pss_nil) (pss_cons (ps_set (i := 8) sc_slants_by.nd rfl (Or.inl rfl) (pe_cB C_in_order (hr.mono (by decide)) pass01 (pa_call (pe_cB C_quotient_of (hr.mono (by decide)) pass01 (pa_name (pv 6) (pa_name (pv 5) pa_nil))) (pa_call (pe_cB C_quotient_of (hr.mono (by decide)) pass01 (pa_name (pv 7) (pa_name (pv 5) pa_nil))) pa_nil)))) (pss_cons (ps_set (i := 2) sc_slants_by.nd rfl (Or.inl rfl) (pe_cB C_greater_of (hr.mono (by decide)) pass01 (pa_name (pv 2) (pa_sub (pe_ix ix_tup (pv 8) pe_int (fun _ _ => rfl)) pa_nil)))) (pss_cons (ps_set (i := 3) sc_slants_by.nd rfl (Or.inl rfl) (pe_cB C_lesser_of (hr.mono (by decide)) pass01 (pa_name (pv 3) (pa_sub (pe_ix ix_tup (pv 8) pe_int (fun _ _ => rfl)) pa_nil)))) (pss_one (ps_ret (pe_ifExp (pt_val (pe_cB C_is_less (hr.mono (by decide)) pass01 (pa_name (pv 3) (pa_name (pv 2) pa_nil)))) pe_non (pe_tup (pa_name (pv 2) (pa_name (pv 3) pa_nil)))))))))))))), ?_⟩
  refine ⟨_, rfl, la, _, _, _, rfl, rfl, hla, rfl, _, rfl, pa, _, _, _, rfl, rfl, hpa, rfl, ?_⟩
  refine ⟨_, _, by walk_at "Zv", ⟨_, _, rfl, ba.sm (by omega), bh.sm (by omega), rfl⟩, fun v5 H5 s5 hv5 => ?_⟩
  refine ⟨_, rfl, la, _, _, _, rfl, rfl, by walk_at "Zt", by rfl, _, rfl, pa, _, _, _, rfl, rfl, by walk_at "Zt", by rfl, ?_⟩
  refine ⟨_, _, by walk_at "Zv", ⟨_, _, rfl, ba.sm (by omega), bs.sm (by omega), rfl⟩, fun v6 H6 s6 hv6 => ?_⟩
  refine ⟨_, rfl, la, _, _, _, rfl, rfl, by walk_at "Zt", by rfl, ?_⟩
  refine ⟨_, _, by walk_at "Zv", ⟨_, _, rfl, (ba.mul bs).sm (by omega), bb.sm (by omega), rfl⟩, fun v7 H7 s7 hv7 => ?_⟩
  refine ⟨_, rfl, la, _, _, _, rfl, rfl, by walk_at "Zt", by rfl, _, rfl, ?_⟩
  refine ⟨_, _, by walk_at "Zv", ⟨_, _, rfl, blo.sm (by omega), (ba.mul bh).sm (by omega), rfl⟩, fun v8 H8 s8 hv8 => ?_⟩
  refine ⟨_, rfl, la, _, _, _, rfl, rfl, by walk_at "Zt", by rfl, _, rfl, ?_⟩
  refine ⟨_, _, by walk_at "Zv", ⟨_, _, rfl, bhi.sm (by omega), (ba.mul bh).sm (by omega), rfl⟩, fun v9 H9 s9 hv9 => ?_⟩
  have br := (ba.mul bs).add bb
  have bl := blo.sub (ba.mul bh)
  have bi := bhi.sub (ba.mul bh)
  have w7 : DV K H9 v7 (frD (l.a * s0 + l.b)) := by walk_at "Zd"
  have w8 : DV K H9 v8 (frD (l.lo - l.a * h0)) := by walk_at "Zd"
  have w9 : DV K H9 v9 (frD (l.hi - l.a * h0)) := hv9
  have w3 := h3.keep (show Same H H9 from by walk_at "Zs")
  have w4 := h4.keep (show Same H H9 from by walk_at "Zs")
  have sH : Same H H9 := by walk_at "Zs"
  clear s5 s6 s7 s8 s9 hv5 hv6 hv7 hv8 hv9
  refine ⟨_, rfl, eq_frG w7 (dN T H9) ⟨_, rfl, ?_⟩⟩
  unfold slBy at k
  generalize l.a * s0 + l.b = ri at br w7 k ⊢
  generalize l.lo - l.a * h0 = lw at bl w8 k ⊢
  generalize l.hi - l.a * h0 = hg at bi w9 k ⊢
  by_cases hr0 : ri = 0
  · rw [if_pos hr0] at k
    refine iteT' (decide_eq_true hr0) ?_
    have pair : ∀ H', Same H9 H' → (2 ≤ sizeLine ∧ ∀ p, H' p = none → DV K (upd H' p (.tup [x3, x4])) (.ref p) (pairD f0 g0)) := fun H' s' => ⟨(by show 2 ≤ sizeLine; decide), fun p hp => DV.upd2 hp (w3.keep s') (w4.keep s')⟩
    refine ⟨_, rfl, _, _, .cons (dN T H9) (.cons w8 .nil), ⟨0, _, rfl, Sm.zero, bl.sm (by omega), rfl⟩, fun b1 H10 s10 hb1 => ?_⟩
    obtain rfl := hb1.bl_of
    refine ⟨_, rfl, ?_⟩
    by_cases c1 : 0 < lw
    · rw [if_neg (fun z => z.1 c1)] at k
      rw [decide_eq_true c1]
      exact iteF (iteF (k _ _ (sH.trans s10) .non))
    · rw [decide_eq_false c1]
      refine iteT ?_
      refine ⟨_, rfl, _, _, .cons (w9.keep s10) (.cons (dN T H10) .nil), ⟨_, 0, rfl, bi.sm (by omega), Sm.zero, rfl⟩, fun b2 H11 s11 hb2 => ?_⟩
      obtain rfl := hb2.bl_of
      refine ⟨_, rfl, ?_⟩
      by_cases c2 : hg < 0
      · rw [if_neg (fun z => z.2 c2)] at k
        rw [decide_eq_true c2]
        exact iteF (k _ _ (sH.trans (s10.trans s11)) .non)
      · rw [if_pos ⟨c1, c2⟩] at k
        rw [decide_eq_false c2]
        refine iteT ⟨_, rfl, _, rfl, (pair H11 (s10.trans s11)).1, fun p hp => ?_⟩
        exact k _ _ (sH.trans (s10.trans (s11.trans (same_new hp _)))) ((pair H11 (s10.trans s11)).2 p hp)
  · rw [if_neg hr0] at k
    refine iteF' (decide_eq_false hr0) ?_
    have q0 : Bd B (lw / ri) := (bl.div br hr0).mono (by omega)
    have q1 : Bd B (hg / ri) := (bi.div br hr0).mono (by omega)
    refine ⟨_, rfl, _, rfl, _, _, .cons w8 (.cons w7 .nil), ⟨_, _, rfl, bl.sm (by omega), br.sm (by omega), hr0, rfl⟩, fun v10 H10 s10 hv10 => ?_⟩
    refine ⟨_, rfl, _, rfl, _, _, by walk_at "Zv", ⟨_, _, rfl, bi.sm (by omega), br.sm (by omega), hr0, rfl⟩, fun v11 H11 s11 hv11 => ?_⟩
    generalize lw / ri = e0 at q0 hv10 k
    generalize hg / ri = e1 at q1 hv11 k
    refine ⟨_, _, by walk_at "Zv", ⟨_, _, rfl, q0.sm (by omega), q1.sm (by omega), rfl⟩, fun v12 H12 s12 hv12 => ?_⟩
    rw [ord_pair] at hv12
    obtain ⟨ea, t1, t2, rfl, hea, ht1, ht2⟩ := DV.t2 (show DV K H12 v12 (.tuple [frD _, frD _]) from hv12)
    have n1 := mnB q0 q1
    have n2 := mxB q0 q1
    generalize mn e0 e1 = a0 at n1 ht1 k
    generalize mx e0 e1 = a1 at n2 ht2 k
    refine ⟨_, rfl, _, rfl, ea, _, _, _, rfl, rfl, hea, rfl, _, _, by walk_at "Zv", ⟨_, _, rfl, bf.sm (by omega), n1.sm (by omega), rfl⟩, fun v13 H13 s13 hv13 => ?_⟩
    refine ⟨_, rfl, _, rfl, ea, _, _, _, rfl, rfl, hea.keep s13, rfl, _, _, by walk_at "Zv", ⟨_, _, rfl, bg.sm (by omega), n2.sm (by omega), rfl⟩, fun v14 H14 s14 hv14 => ?_⟩
    have n3 := mxB bf n1
    have n4 := mnB bg n2
    generalize mx f0 a0 = b0 at n3 hv13 k
    generalize mn g0 a1 = b1 at n4 hv14 k
    refine ⟨_, rfl, _, rfl, _, _, by walk_at "Zv", ⟨_, _, rfl, n4.sm (by omega), n3.sm (by omega), rfl⟩, fun b15 H15 s15 hb15 => ?_⟩
    obtain rfl := hb15.bl_of
    refine ⟨_, rfl, ?_⟩
    by_cases c3 : b1 < b0
    · rw [if_pos c3] at k
      exact iteT' (decide_eq_true c3) (k _ _ (zs1 s15 (zs1 s14 (zs1 s13 (zs1 s12 (zs1 s11 (zs1 s10 sH)))))) .non)
    · rw [if_neg c3] at k
      refine iteF' (decide_eq_false c3) ⟨_, rfl, _, rfl, (by show 2 ≤ sizeLine; decide), fun p hp => ?_⟩
      exact k _ _ (zs2 hp (zs1 s15 (zs1 s14 (zs1 s13 (zs1 s12 (zs1 s11 (zs1 s10 sH))))))) (DV.upd2 hp (hv13.keep (s14.trans s15)) (hv14.keep s15))
theorem c_is_stretch (T : Txt K mg ad) : CalB P w K mg base true 3 "is_stretch" ["first", "last"] (PR K RStr2) := by
  have C_is_ratio := c_is_ratio (P := P) (w := w) (base := base) T
  have C_is_less := c_is_less (P := P) (w := w) (base := base) T
  refine T.t_is_stretch.calN sc_is_stretch (fun _ _ _ _ _ _ => by2 fun _ _ => rfl) (fun vs H Q E h => ?_) (fun f cdv A outer s H vs Q E hr h => ?_)
  · obtain ⟨_, _, dv, ⟨_, _, rfl, _⟩, _⟩ := h; exact dv.len
  obtain ⟨_, _, dv, ⟨p, q, rfl, sp, sq, ord, rfl⟩, k⟩ := h
  obtain ⟨x, y, rfl, hx, hy⟩ := dv.two
  refine ⟨_, (pss_one (ps_ret (pe_and (pe_cB C_is_ratio (hr.mono (by decide)) pass01 (pa_name (pv 0) pa_nil)) (pe_and (pe_cB C_is_ratio (hr.mono (by decide)) pass01 (pa_name (pv 1) pa_nil)) (pe_one (pe_not (pe_cB C_is_less (hr.mono (by decide)) pass01 (pa_name (pv 1) (pa_name (pv 0) pa_nil))))))))), ?_⟩
  refine ⟨_, rfl, _, _, rfl, hx, _, rfl, iteT ?_⟩
  refine ⟨_, rfl, _, _, rfl, hy, _, rfl, iteT ?_⟩
  refine ⟨_, rfl, _, rfl, _, _, .cons hy (.cons hx .nil), ⟨_, _, rfl, sq, sp, rfl⟩, fun b H1 s1 hb => ?_⟩
  obtain rfl := hb.bl_of
  rw [decide_eq_false ord]
  exact ⟨_, rfl, k _ _ s1 (.bl _)⟩
theorem c_look_at_stretch (T : Txt K mg ad) : CalB P w K mg base true 4 "look_at_stretch" ["first", "last"] (PR K RStr2N) := by
  have C_is_stretch := c_is_stretch (P := P) (w := w) (base := base) T
  refine T.t_look_at_stretch.calN sc_look_at_stretch (fun _ _ _ _ _ _ => by2 fun _ _ => rfl) (fun vs H Q E h => ?_) (fun f cdv A outer s H vs Q E hr h => ?_)
  · obtain ⟨_, _, dv, ⟨_, _, rfl, _⟩, _⟩ := h; exact dv.len
  obtain ⟨_, _, dv, ⟨p, q, rfl, sp, sq, ord, rfl⟩, k⟩ := h
  obtain ⟨x, y, rfl, hx, hy⟩ := dv.two
  refine ⟨_, (pss_one (ps_if (pt_not (pt_val (pe_cB C_is_stretch (hr.mono (by decide)) pass01 (pa_name (pv 0) (pa_name (pv 1) pa_nil))))) (pss_one ps_never) pss_nil)), ?_⟩
  refine ⟨_, rfl, _, rfl, _, _, .cons hx (.cons hy .nil), ⟨_, _, rfl, sp, sq, ord, rfl⟩, fun b H1 s1 hb => ?_⟩
  obtain rfl := hb.bl_of
  exact ⟨_, rfl, iteF (k _ _ s1 .non)⟩
theorem c_slants_of (T : Txt K mg ad) : CalB P w K mg base true 6 "slants_of" ["bench", "lamp", "first", "last"] (PR K RSlOf) := by
  have C_limits_of := c_limits_of (P := P) (w := w) (base := base) T
  have C_look_at_stretch := c_look_at_stretch (P := P) (w := w) (base := base) T
  have C_slants_by := c_slants_by (P := P) (w := w) (base := base) T
  refine T.t_slants_of.calN sc_slants_of (fun _ _ _ _ _ _ => by4 fun _ _ _ _ => rfl) (fun vs H Q E h => ?_) (fun f cdv A outer s H vs Q E hr h => ?_)
  · obtain ⟨_, _, dv, ⟨_, _, _, _, _, _, _, _, rfl, _⟩, _⟩ := h; exact dv.len
  obtain ⟨_, _, dv, ⟨ps, h0, s0, f0, g0, n, m, B, rfl, g, bh, bs, bf, bg, ord, hB, hB2, rfl⟩, k⟩ := h
  obtain ⟨x1, x2, x3, x4, rfl, h1, h2, h3, h4⟩ := dv.four
  refine ⟨_, (pss_cons (ps_set (i := 4) sc_slants_of.nd rfl (Or.inl rfl) (pe_cB C_limits_of (hr.mono (by decide)) pass01 (pa_name (pv 0) pa_nil))) (pss_cons (ps_expr (pe_cB C_look_at_stretch (hr.mono (by decide)) pass01 (pa_name (pv 2) (pa_name (pv 3) pa_nil)))) (pss_cons (ps_set (i := 5) sc_slants_of.nd rfl (Or.inl rfl) (pe_tup (pa_name (pv 2) (pa_name (pv 3) pa_nil)))) (pss_cons (ps_for PassesOwn.never rfl (pi_list (pv 4)) (pg_name (i := 6) sc_slants_of.nd rfl (by first | exact Or.inl rfl | exact Or.inr rfl)) (pss_cons (ps_set (i := 5) sc_slants_of.nd rfl (Or.inl rfl) (pe_cB C_slants_by (hr.mono (by decide)) pass01 (pa_name (pv 6) (pa_name (pv 1) (pa_sub (pe_ix ix_tup (pv 5) pe_int (fun _ _ => rfl)) (pa_sub (pe_ix ix_tup (pv 5) pe_int (fun _ _ => rfl)) pa_nil)))))) (pss_one (ps_if (pt_cmpR op_isN (pv 5) pe_non (nomark _)) (pss_one (ps_ret pe_non)) pss_nil)))) (pss_one (ps_ret (pv 5))))))), ?_⟩
  refine ⟨_, rfl, _, ps, n, rfl, h1, g, by omega, fun l rs H1 s1 nl hl hrs => ?_⟩
  have hlen : rs.length = (lims ps).length := by have := hrs.len; rw [List.length_map] at this; exact this
  have hok : ∀ x ∈ lims ps, LimOk (2 + ps.length * (n + 1) + n) x := lims_all g.bd
  refine ⟨_, rfl, _, rfl, _, _, by walk_at "Zv", ⟨_, _, rfl, bf.sm (by omega), bg.sm (by omega), ord, rfl⟩, fun v2 H2 s2 _ => ?_⟩
  refine ⟨_, rfl, _, rfl, (by show 2 ≤ sizeLine; decide), fun p3 hp3 => ?_⟩
  have u3 := same_new hp3 (.tup [x3, x4])
  have d3 : DV K (upd H2 p3 (.tup [x3, x4])) (.ref p3) (pairD f0 g0) := DV.upd2 hp3 (by walk_at "Zd") (by walk_at "Zd")
  have hl3 := (s2.trans u3) _ _ hl
  have hrs3 := hrs.keep (s2.trans u3)
  have t3 := s1.trans (s2.trans u3)
  clear u3 s2 s1
  generalize upd H2 p3 (.tup [x3, x4]) = H3 at d3 hl3 hrs3 t3 ⊢
  generalize lims ps = ls at hok hrs3 hlen k
  refine ⟨_, rfl, l, rfl, ⟨_, SqL.of hl3⟩, ?_⟩
  refine for_list (K := K) (a := l) (xs := rs) (fun i σ H' => ∃ c6 sv f1 g1, σ = [some x1, some x2, some x3, some x4, some (.ref l), some sv, c6] ∧ Same H3 H' ∧ DV K H' sv (pairD f1 g1) ∧ Bd B f1 ∧ Bd B g1 ∧ slOf ls h0 s0 f0 g0 = slOf (ls.drop i) h0 s0 f1 g1) ⟨_, _, f0, g0, rfl, Same.refl _, d3, bf, bg, rfl⟩ ?_ ?_ ?_
  · rintro i σ H' hi ⟨c6, sv, f1, g1, rfl, s4, _⟩
    exact SqL.of (s4 _ _ hl3)
  · rintro i x σ H' hi ⟨c6, sv, f1, g1, rfl, s4, hsv, b1, b2, es⟩
    obtain ⟨d, hd, hx⟩ := hrs3.get hi
    obtain ⟨lm, hlm, rfl⟩ := get_map_lim hd
    have ok := hok _ (List.mem_of_getElem? hlm)
    rw [slOf_drop hlm] at es
    obtain ⟨sa, t1, t2, rfl, hsa, ht1, ht2⟩ := DV.t2 (show DV K H' sv (.tuple [frD f1, frD g1]) from hsv)
    refine ⟨_, rfl, _, rfl, _, rfl, sa, _, _, _, rfl, rfl, hsa, rfl, _, rfl, sa, _, _, _, rfl, rfl, hsa, rfl, ?_⟩
    refine ⟨_, _, .cons (hx.keep s4) (.cons (h2.keep (t3.trans s4)) (.cons ht1 (.cons ht2 .nil))), ⟨lm, h0, s0, f1, g1, _, m, B, rfl, ok, bh, bs, b1, b2, hB, hB2, rfl⟩, fun v5 H5 s5 hv5 => ?_⟩
    cases e : slBy lm h0 s0 f1 g1 with
    | none =>
      rw [e] at hv5 es
      obtain rfl := DV.non_of hv5
      refine ⟨_, rfl, rfl, _, rfl, iteT' (by decide) (k _ _ (t3.trans (s4.trans s5)) ?_)⟩
      rw [es]
      exact .non
    | some pr =>
      obtain ⟨f2, g2⟩ := pr
      rw [e] at hv5 es
      have hv5 : DV K H5 v5 (pairD f2 g2) := hv5
      obtain ⟨ea, eb, _⟩ := by_ends e
      have qb := quots_bd (ls := [lm]) (fun l hl => by rw [List.mem_singleton.mp hl]; exact ok) bh bs
      have b3 : Bd B f2 := by
        rcases List.mem_cons.mp ea with rfl | h
        · exact b1
        · exact (qb _ h).mono hB
      have b4 : Bd B g2 := by
        rcases List.mem_cons.mp eb with rfl | h
        · exact b2
        · exact (qb _ h).mono hB
      obtain ⟨va, w1, w2, rfl, hva, _, _⟩ := DV.t2 (show DV K H5 v5 (.tuple [frD f2, frD g2]) from hv5)
      exact ⟨_, rfl, rfl, _, rfl, iteF' (by simp) ⟨_, _, f2, g2, rfl, s4.trans s5, hv5, b3, b4, es⟩⟩
  · rintro σ H' ⟨c6, sv, f1, g1, rfl, s4, hsv, b1, b2, es⟩
    refine ⟨_, rfl, k _ _ (t3.trans s4) ?_⟩
    rw [es, hlen, List.drop_length]
    exact hsv
end
end K50
namespace K50
open PySem L2 Lib Fr Op
seal PE PT PW PA PS PSs PG PGs PI PO PIfs
section
variable {P : Program} {w : World} {K : PySem.W.Frag} {mg : Str → Option Value} {base : Heap} {ad : Adr} {c : Bool}
theorem c__law_drawn (T : Txt K mg ad) : CalB P w K mg base true 1 "_law_drawn" ["_law_script", "_law_start"] (spDrawn K) := by
  refine T.t__law_drawn.calN sc__law_drawn (fun _ _ _ _ _ _ => by2 fun _ _ => rfl) (fun vs H Q E h => ?_) (fun f cdv A outer s H vs Q E hr h => ?_)
  · obtain ⟨_, _, _, rfl, _⟩ := h; rfl
  obtain ⟨a, ns, st, rfl, hS, q⟩ := h
  refine ⟨_, (pss_one (ps_ret (pe_lst (pa_name (pv 1) (pa_bin (pe_op op_cat (pe_slice sl_list (pv 0) po_none (po_some pe_int)) (pe_lst (pa_name (pv 1) pa_nil))) (pa_const pe_int pa_nil)))))), ?_⟩
  have z1 := cutV_le0 (ns.map V.int) 60
  change (cutV (ns.map V.int) none (some 60)).length ≤ _ at z1
  have i1 := cut_ints ns none (some 60)
  refine ⟨_, rfl, _, rfl, _, rfl, a, _, rfl, hS, fun p hp => ?_⟩
  generalize cutV (ns.map V.int) none (some 60) = L1 at z1 i1 ⊢
  have u1 := same_new hp (.lst L1)
  refine ⟨_, rfl, (by show 1 ≤ sizeLine; decide), fun p2 hp2 => ?_⟩
  have u2 := same_new hp2 (.lst [.int st])
  refine ⟨p, p2, _, _, rfl, rfl, u2 _ _ upd_same, upd_same, Nat.le_of_lt (small1000 (by simp only [List.length_cons, List.length_nil]; omega)), fun p3 hp3 => ?_⟩
  have u3 := same_new hp3 (.lst (L1 ++ [.int st]))
  refine ⟨(by show 3 ≤ sizeLine; decide), fun p4 hp4 => ?_⟩
  have u4 := same_new hp4 (.lst [.int st, .ref p3, .int 0])
  have u14 := u1.trans (u2.trans (u3.trans u4))
  refine q p4 p3 (L1 ++ [.int st]) _ u14 ((u1.trans (u2.trans u3)).free hp4) ⟨⟨st, 0, by decide, upd_same⟩, u4 _ _ upd_same, fun x hx => ?_, by rw [List.length_append]; simp, by rw [List.length_append]; simp only [List.length_cons, List.length_nil]; omega⟩
  rcases List.mem_append.mp hx with h | h
  · exact i1 x h
  · exact ⟨st, List.mem_singleton.mp h⟩
theorem c__law_draw (T : Txt K mg ad) : CalB P w K mg base true 1 "_law_draw" ["_law_drawn_here", "_law_many"] spDraw := by
  refine T.t__law_draw.calN sc__law_draw (fun _ _ _ _ _ _ => by2 fun _ _ => rfl) (fun vs H Q E h => ?_) (fun f cdv A outer s H vs Q E hr h => ?_)
  · obtain ⟨_, _, _, _, rfl, _⟩ := h; rfl
  obtain ⟨d, c, L, m, rfl, hd, m0, q⟩ := h
  obtain ⟨a, n, n0, hdd⟩ := hd.d
  have ncd := hd.ne
  refine ⟨_, (pss_cons (ps_set (i := 2) sc__law_draw.nd rfl (Or.inl rfl) (pe_ix ix_list (pv 0) pe_int (fun _ _ => rfl))) (pss_cons (ps_asg (pe_op op_add (pe_ix ix_list (pv 0) pe_int (fun _ _ => rfl)) pe_int) (pg_sub (pv 0) pe_int set_list)) (pss_cons (ps_set (i := 3) sc__law_draw.nd rfl (Or.inl rfl) (pe_op op_add (pe_op op_mul (pe_ix ix_list (pv 0) pe_int (fun _ _ => rfl)) pe_int) (pe_op op_mod (pe_ix ix_list (pv 2) (pe_op op_mod (pe_ix ix_list (pv 0) pe_int (fun _ _ => rfl)) (pe_callB call_len_seq rfl T.len bt_len (pa_name (pv 2) pa_nil))) (fun _ _ => rfl)) pe_int))) (pss_cons (ps_asg (pe_op op_mod (pe_op op_add (pv 3) (pe_ix ix_list (pv 0) pe_int (fun _ _ => rfl))) pe_int) (pg_sub (pv 0) pe_int set_list)) (pss_one (ps_ret (pe_op op_mod (pe_op op_fdiv (pe_ix ix_list (pv 0) pe_int (fun _ _ => rfl)) pe_int) (pv 1)))))))), ?_⟩
  refine ⟨_, rfl, d, _, _, _, rfl, rfl, SqL.of hdd, rfl, ?_⟩
  refine ⟨_, rfl, d, _, _, _, rfl, rfl, SqL.of hdd, rfl, _, _, rfl, rfl, _, rfl, d, _, _, 2, rfl, rfl, hdd, rfl, ?_⟩
  have h1 : upd H d (.lst [.int a, .ref c, .int (n + 1)]) d = some (.lst [.int a, .ref c, .int (n + 1)]) := upd_same
  have hc1 : upd H d (.lst [.int a, .ref c, .int (n + 1)]) c = some (.lst L) := by rw [upd_ne ncd]; exact hd.c
  have e1 : upd H d (.lst ([V.int a, .ref c, .int n].set 2 (.int (n + 1)))) = upd H d (.lst [.int a, .ref c, .int (n + 1)]) := rfl
  have s1 : SD d H (upd H d (.lst [.int a, .ref c, .int (n + 1)])) := sd_upd
  refine ⟨_, rfl, d, _, _, _, rfl, rfl, SqL.of h1, rfl, _, _, rfl, rfl, .inr ⟨by decide, by decide⟩, ?_⟩
  have lp : (0 : Int) < ((L.length : Nat) : Int) := by have := hd.l; omega
  have m1 := Int.emod_nonneg (n + 1) (show ((L.length : Nat) : Int) ≠ 0 by omega)
  have m2 := Int.emod_lt_of_pos (n + 1) lp
  obtain ⟨v, hv, hm⟩ := atI_in (xs := L) m1 m2
  obtain ⟨z, rfl⟩ := hd.i v hm
  refine ⟨_, rfl, _, rfl, d, _, _, _, rfl, rfl, SqL.of h1, rfl, _, rfl, c, _, rfl, .inl (SqL.of hc1), _, _, rfl, rfl, lp, c, _, _, _, rfl, rfl, SqL.of hc1, hv, ?_⟩
  refine ⟨_, _, rfl, rfl, (by show (0 : Int) < 2147483647; decide), _, _, rfl, rfl, ?_⟩
  refine ⟨_, rfl, _, rfl, d, _, _, _, rfl, rfl, SqL.of h1, rfl, _, _, rfl, rfl, _, _, rfl, rfl, (by show (0 : Int) < 2147483629; decide), _, rfl, d, _, _, 0, rfl, rfl, h1, rfl, ?_⟩
  have h2 : ∀ x : Int, DrA (upd (upd H d (.lst [.int a, .ref c, .int (n + 1)])) d (.lst [.int x, .ref c, .int (n + 1)])) d c L := fun x => ⟨⟨x, n + 1, by omega, upd_same⟩, by rw [upd_ne ncd]; exact hc1, hd.i, hd.l, hd.m⟩
  refine ⟨_, rfl, d, _, _, _, rfl, rfl, SqL.of upd_same, rfl, _, _, rfl, rfl, ⟨by decide, by decide⟩, _, rfl, _, _, rfl, rfl, m0, ?_⟩
  exact q _ _ (Int.emod_nonneg _ (by omega)) (Int.emod_lt_of_pos _ m0) (h2 _) (s1.trans sd_upd)
theorem c__law_low (T : Txt K mg ad) : CalB P w K mg base true 1 "_law_low" ["_law_top", "_law_bottom"] spLowP := by
  refine T.t__law_low.calN sc__law_low (fun _ _ _ _ _ _ => by2 fun _ _ => rfl) (fun vs H Q E h => ?_) (fun f cdv A outer s H vs Q E hr h => ?_)
  · obtain ⟨a, b, rfl, _⟩ := h; rfl
  obtain ⟨a, b, rfl, bp, bs, q⟩ := h
  have b0 : b ≠ 0 := by omega
  refine ⟨_, (pss_cons (ps_set (i := 2) sc__law_low.nd rfl (Or.inl rfl) (pe_callB call_abs rfl T.abs bt_abs (pa_name (pv 0) pa_nil))) (pss_cons (ps_set (i := 3) sc__law_low.nd rfl (Or.inl rfl) (pv 1)) (pss_cons (ps_while PassesOwn.never (pt_cmpR op_gt (pv 3) pe_int (nomark _)) (pss_one (ps_par (i := 2) (j := 3) rfl sc__law_low.nd rfl rfl (by decide) rfl rfl (pa_name (pv 3) (pa_bin (pe_op op_mod (pv 2) (pv 3)) pa_nil)) rfl))) (pss_one (ps_ret (pe_tup (pa_bin (pe_op op_fdivW (pv 0) (pv 2)) (pa_bin (pe_op op_fdivW (pv 1) (pv 2)) pa_nil)))))))), ?_⟩
  refine ⟨_, rfl, _, rfl, _, rfl, ?_⟩
  have ea := Fr.absE a
  have eb : b = (b.natAbs : Int) := by omega
  refine ⟨fun k σ H' => H = H' ∧ ∃ (m : Nat), σ = [some (.int a), some (.int b), some (.int m), some (.int k)] ∧ Nat.gcd m k = Nat.gcd a.natAbs b.natAbs, ⟨b.natAbs, rfl, a.natAbs, by rw [← ea, ← eb]; rfl, rfl⟩, ?_⟩
  rintro n _ _ ⟨rfl, m, rfl, e⟩
  refine ⟨_, rfl, _, _, rfl, rfl, _, rfl, ?_⟩
  refine ite2 (fun c => ?_) (fun c => ?_)
  · have hn : n ≠ 0 := by
      intro z
      subst z
      simp at c
    have h1 : (m : Int) % (n : Int) = ((m % n : Nat) : Int) := (Int.natCast_emod m n).symm
    refine ⟨fun σ' H' => H = H' ∧ σ' = [some (.int a), some (.int b), some (.int n), some (.int ((m : Int) % (n : Int)))], ?_, ?_⟩
    · rintro _ _ ⟨rfl, rfl⟩
      rw [h1]
      exact ⟨m % n, Nat.mod_lt _ (by omega), rfl, n, rfl, by rw [Fr.gcd_turn, e]⟩
    · exact ⟨_, rfl, _, rfl, _, rfl, _, _, rfl, rfl, (by show (0 : Int) < (n : Int); omega), _, _, rfl, rfl, rfl⟩
  · have hn : n = 0 := by
      by_cases z : n = 0
      · exact z
      · exfalso
        apply c
        exact decide_eq_true (by omega)
    subst hn
    have e2 : (m : Int) = Fr.gcd a b := by
      unfold Fr.gcd
      rw [← e, Nat.gcd_zero_right]
    have gl := Fr.gcd_le (a := a) b0
    have gn := Fr.gcd_nn a b
    have eg : (m : Int) = Fr.sg a b := by
      unfold Fr.sg
      rw [if_neg (by omega), e2]
    have gs : (m : Int).natAbs.log2 < 9000 := by
      have h2 : (m : Int).natAbs < lim := by omega
      exact lim_log h2
    have ne : (m : Int) ≠ 0 := by rw [eg]; exact Fr.sg_ne b0
    refine ⟨_, rfl, _, rfl, _, _, rfl, rfl, ⟨ne, gs⟩, _, rfl, _, rfl, _, _, rfl, rfl, ⟨ne, gs⟩, (by show 2 ≤ sizeLine; decide), fun p hp => ?_⟩
    rw [eg]
    exact q p hp
theorem c__law_under (T : Txt K mg ad) : CalB P w K mg base true 1 "_law_under" ["_law_one", "_law_other"] (PR K RLess) := by
  refine T.t__law_under.calN sc__law_under (fun _ _ _ _ _ _ => by2 fun _ _ => rfl) (fun vs H Q E h => ?_) (fun f cdv A outer s H vs Q E hr h => ?_)
  · obtain ⟨_, _, dv, ⟨_, _, rfl, _⟩, _⟩ := h; exact dv.len
  obtain ⟨_, _, dv, ⟨p, q, rfl, sp, sq, rfl⟩, k⟩ := h
  obtain ⟨_, _, rfl, hx, hy⟩ := dv.two
  obtain ⟨a, rfl, ha⟩ := hx.fr
  obtain ⟨b, rfl, hb⟩ := hy.fr
  refine ⟨_, (pss_one (ps_ret (pe_cmpR op_lt (pe_op op_mulW (pe_ix ix_tup (pv 0) pe_int (fun _ _ => rfl)) (pe_ix ix_tup (pv 1) pe_int (fun _ _ => rfl))) (pe_op op_mulW (pe_ix ix_tup (pv 1) pe_int (fun _ _ => rfl)) (pe_ix ix_tup (pv 0) pe_int (fun _ _ => rfl))) (nomark _)))), ?_⟩
  refine ⟨_, rfl, a, _, _, _, rfl, rfl, ha, rfl, _, rfl, b, _, _, _, rfl, rfl, hb, rfl, _, _, rfl, rfl, mulW sp.n sq.dn, ?_⟩
  refine ⟨_, rfl, b, _, _, _, rfl, rfl, hb, rfl, _, rfl, a, _, _, _, rfl, rfl, ha, rfl, _, _, rfl, rfl, mulW sq.n sp.dn, _, _, rfl, rfl, ?_⟩
  have e : decide (p.num * (q.den : Int) < q.num * (p.den : Int)) = decide (p < q) := decide_eq_decide.mpr (Fr.lt_rat p q)
  show Q (.bl (decide (p.num * (q.den : Int) < q.num * (p.den : Int)))) H
  rw [e]
  exact k _ _ (Same.refl _) (.bl _)
theorem c__law_part (T : Txt K mg ad) : CalB P w K mg base true 2 "_law_part" ["_law_drawn_here", "_law_far"] (spDPartN K) := by
  have C__law_draw := c__law_draw (P := P) (w := w) (base := base) T
  have C__law_low := c__law_low (P := P) (w := w) (base := base) T
  refine T.t__law_part.calN sc__law_part (fun _ _ _ _ _ _ => by2 fun _ _ => rfl) (fun vs H Q E h => ?_) (fun f cdv A outer s H vs Q E hr h => ?_)
  · obtain ⟨_, _, _, _, rfl, _⟩ := h; rfl
  obtain ⟨d, c, L, far, rfl, hd, q⟩ := h
  have p15 : CPow 10 15 := ⟨by decide, by decide, by decide⟩
  have t15 : (10 : Int) ^ (15 : Int).toNat = 1000000000000000 := by decide
  have p50 : (2 : Nat) ^ 50 = 1125899906842624 := by decide
  obtain ⟨tR, hR, kR⟩ : ∃ t, PSs (cxB true P w K mg base ["_law_drawn_here", "_law_far", "_law_top", "_law_bottom"] "_law_part" (defScope s__law_part) f cdv A outer s H E).nox ((defBody s__law_part).drop 1) t ∧ ∀ (D : Ends) (c2 c3 : Option V) (H1 : Hp), DrA H1 d c L → SD d H H1 → (∀ v H' q, DrA H' d c L → SD d H H' → DV K H' v (frD q) → Bd (pb far) q → D.rt v H') → t D [some (.ref d), some (.bl far), c2, c3] H1 := by
    refine ⟨_, (pss_cons (ps_set (i := 2) sc__law_part.nd rfl (Or.inl rfl) (pe_cB C__law_draw (hr.mono (by decide)) pass01 (pa_name (pv 0) (pa_sub (pe_ix ix_list (pe_lst (pa_const pe_int (pa_const pe_int pa_nil))) (pe_callTy call_int1 rfl T.int bt_int (pa_cmp (pe_cmpR op_eq (pe_cB C__law_draw (hr.mono (by decide)) pass01 (pa_name (pv 0) (pa_const pe_int pa_nil))) pe_int (nomark _)) pa_nil)) (fun _ _ => rfl)) pa_nil)))) (pss_cons (ps_set (i := 3) sc__law_part.nd rfl (Or.inl rfl) (pe_op op_add pe_int (pe_ix ix_list (pe_lst (pa_const pe_int (pa_const pe_int (pa_call (pe_cB C__law_draw (hr.mono (by decide)) pass01 (pa_name (pv 0) (pa_const pe_int pa_nil))) (pa_call (pe_cB C__law_draw (hr.mono (by decide)) pass01 (pa_name (pv 0) (pa_const pe_int pa_nil))) pa_nil))))) (pe_cB C__law_draw (hr.mono (by decide)) pass01 (pa_name (pv 0) (pa_const pe_int pa_nil))) (fun _ _ => rfl)))) (pss_cons (ps_if (pt_cmpR op_eq (pe_cB C__law_draw (hr.mono (by decide)) pass01 (pa_name (pv 0) (pa_const pe_int pa_nil))) pe_int (nomark _)) (pss_one (ps_set (i := 2) sc__law_part.nd rfl (Or.inl rfl) (pe_op op_sub pe_int (pv 2)))) pss_nil) (pss_one (ps_ret (pe_cB C__law_low (hr.mono (by decide)) pass01 (pa_name (pv 2) (pa_name (pv 3) pa_nil)))))))), ?_⟩
    intro D c2 c3 H1 hd1 s1 q
    refine ⟨_, rfl, (by show 2 ≤ sizeLine; decide), fun p hp => ?_⟩
    have u1 := same_new hp (.lst [.int 21, .int 1999])
    obtain ⟨a0, n0, _, hdd⟩ := hd1.d
    have npd : p ≠ d := fun e => by rw [e, hdd] at hp; cases hp
    refine ⟨_, rfl, d, c, L, 9, rfl, hd1.keep u1, by decide, fun x1 H2 x10 x11 hd2 s2 => ?_⟩
    have hp2 := s2 p _ npd upd_same
    refine ⟨rfl, .inr ⟨_, rfl, ?_⟩⟩
    obtain ⟨v, hv, hm⟩ := atI_in (xs := [V.int 21, V.int 1999]) (r := if decide (V.int x1 = V.int 1) then 1 else 0) (by split <;> decide) (by simp only [List.length_cons, List.length_nil]; split <;> decide)
    obtain ⟨m, rfl, m0, m1⟩ : ∃ m : Int, v = .int m ∧ 0 < m ∧ m ≤ 1999 := by
      simp only [List.mem_cons, List.not_mem_nil, or_false] at hm
      rcases hm with rfl | rfl <;> exact ⟨_, rfl, by decide, by decide⟩
    refine ⟨p, _, _, _, rfl, rfl, SqL.of hp2, hv, ?_⟩
    refine ⟨d, c, L, m, rfl, hd2, m0, fun t H3 t0 t1 hd3 s3 => ?_⟩
    have s03 := s1.trans ((u1.sd d).trans (s2.trans s3))
    -- the bottom
    refine ⟨_, rfl, d, c, L, 4, rfl, hd3, by decide, fun y1 H4 y10 y11 hd4 s4 => ?_⟩
    refine ⟨_, rfl, d, c, L, 12, rfl, hd4, by decide, fun y2 H5 y20 y21 hd5 s5 => ?_⟩
    refine ⟨(by show 4 ≤ sizeLine; decide), fun p5 hp5 => ?_⟩
    have u5 := same_new hp5 (.lst [.int 0, .int 0, .int y1, .int y2])
    obtain ⟨a5, n5, _, hdd5⟩ := hd5.d
    have npd5 : p5 ≠ d := fun e => by rw [e, hdd5] at hp5; cases hp5
    refine ⟨_, rfl, d, c, L, 4, rfl, hd5.keep u5, by decide, fun y3 H6 y30 y31 hd6 s6 => ?_⟩
    have hp6 := s6 p5 _ npd5 upd_same
    obtain ⟨v2, hv2, hm2⟩ := atI_in (xs := [V.int 0, V.int 0, V.int y1, V.int y2]) (r := y3) y30 (by simp only [List.length_cons, List.length_nil]; omega)
    obtain ⟨b, rfl, b0, b1⟩ : ∃ b : Int, v2 = .int b ∧ 0 ≤ b ∧ b ≤ 11 := by
      simp only [List.mem_cons, List.not_mem_nil, or_false] at hm2
      rcases hm2 with rfl | rfl | rfl | rfl
      · exact ⟨_, rfl, by decide, by decide⟩
      · exact ⟨_, rfl, by decide, by decide⟩
      · exact ⟨_, rfl, y10, by omega⟩
      · exact ⟨_, rfl, y20, by omega⟩
    refine ⟨p5, _, _, _, rfl, rfl, SqL.of hp6, hv2, _, _, rfl, rfl, ?_⟩
    have s06 := s03.trans (s4.trans (s5.trans ((u5.sd d).trans s6)))
    refine ⟨_, rfl, d, c, L, 2, rfl, hd6, by decide, fun y4 H7 y40 y41 hd7 s7 => ?_⟩
    have s07 := s06.trans s7
    have bl : (1 + b : Int).natAbs < lim := Nat.lt_of_lt_of_le (show (1 + b : Int).natAbs < 2 ^ 50 by omega) (by unfold lim; exact pow_le (by decide))
    refine ⟨rfl, _, rfl, ?_⟩
    have p12 : (2 : Nat) ^ 12 = 4096 := by decide
    have fin : ∀ t' : Int, t'.natAbs < 2 ^ 12 → ∀ p7, H7 p7 = none → D.rt (.ref p7) (upd H7 p7 (.tup [.int (Fr.lt t' (1 + b)), .int (Fr.lb t' (1 + b))])) := fun t' ht p7 hp7 =>
      q _ _ _ (hd7.keep (same_new hp7 _)) (s07.trans ((same_new hp7 _).sd d)) (dv_low (by omega)) ((Bd.of (by omega) ht (by omega)).mono (pb_ge far))
    refine ite2 (fun _ => ?_) (fun _ => ?_)
    · refine ⟨_, rfl, _, _, rfl, rfl, ?_⟩
      exact ⟨_, rfl, _, rfl, _, _, rfl, (by show (0 : Int) < 1 + b; omega), bl, fun p7 hp7 => fin (0 - t) (by omega) p7 hp7⟩
    · exact ⟨_, rfl, _, rfl, _, _, rfl, (by show (0 : Int) < 1 + b; omega), bl, fun p7 hp7 => fin t (by omega) p7 hp7⟩
  refine ⟨_, (pss_cons (ps_if (PW.pt (pw_and (pt_val (pv 1)) (pw_and1 (pt_cmpR op_eq (pe_cB C__law_draw (hr.mono (by decide)) pass01 (pa_name (pv 0) (pa_const pe_int pa_nil))) pe_int (nomark _))))) (pss_cons (ps_set (i := 2) sc__law_part.nd rfl (Or.inl rfl) (pe_op op_add (pe_op op_mul (pe_cB C__law_draw (hr.mono (by decide)) pass01 (pa_name (pv 0) (pa_const pe_int pa_nil))) pe_int) (pe_cB C__law_draw (hr.mono (by decide)) pass01 (pa_name (pv 0) (pa_const pe_int pa_nil))))) (pss_cons (ps_set (i := 3) sc__law_part.nd rfl (Or.inl rfl) (pe_op op_add (pe_op op_mul (pe_cB C__law_draw (hr.mono (by decide)) pass01 (pa_name (pv 0) (pa_const pe_int pa_nil))) pe_int) (pe_cB C__law_draw (hr.mono (by decide)) pass01 (pa_name (pv 0) (pa_const pe_int pa_nil))))) (pss_one (ps_ret (pe_cB C__law_low (hr.mono (by decide)) pass01 (pa_bin (pe_op op_add (pe_op op_sub (pe_op op_mod (pv 2) (pe_op op_sub (pe_op op_mul pe_int (pe_op op_pow pe_int pe_int)) pe_int)) (pe_op op_pow pe_int pe_int)) pe_int) (pa_bin (pe_op op_add pe_int (pe_op op_mod (pv 3) (pe_op op_sub (pe_op op_pow pe_int pe_int) pe_int))) pa_nil))))))) pss_nil) hR), ?_⟩
  refine ⟨_, rfl, _, rfl, ?_⟩
  cases far with
  | false => exact iteF (iteF (kR _ _ _ H hd (SD.refl _ _) q))
  | true =>
    refine iteT ?_
    refine ⟨_, rfl, d, c, L, 3, rfl, hd, by decide, fun x1 H1 x10 x11 hd1 s1 => ?_⟩
    refine ⟨rfl, _, rfl, ?_⟩
    refine ite2 (fun _ => ?_) (fun _ => kR _ _ _ H1 hd1 s1 q)
    refine ⟨_, rfl, d, c, L, 33554432, rfl, hd1, by decide, fun a1 H2 a10 a11 hd2 s2 => ?_⟩
    refine ⟨_, _, rfl, rfl, .inr ⟨by decide, by decide⟩, _, rfl, d, c, L, 33554432, rfl, hd2, by decide, fun a2 H3 a20 a21 hd3 s3 => ?_⟩
    refine ⟨_, _, rfl, rfl, ?_⟩
    refine ⟨_, rfl, d, c, L, 33554432, rfl, hd3, by decide, fun a3 H4 a30 a31 hd4 s4 => ?_⟩
    refine ⟨_, _, rfl, rfl, .inr ⟨by decide, by decide⟩, _, rfl, d, c, L, 33554432, rfl, hd4, by decide, fun a4 H5 a40 a41 hd5 s5 => ?_⟩
    refine ⟨_, _, rfl, rfl, ?_⟩
    have s05 := s1.trans (s2.trans (s3.trans (s4.trans s5)))
    refine ⟨_, rfl, _, _, rfl, rfl, p15, _, _, rfl, rfl, .inl ⟨by decide, by decide⟩, _, _, rfl, rfl, _, _, rfl, rfl, (by show (0 : Int) < 2 * 10 ^ (15 : Int).toNat - 1; decide), _, _, rfl, rfl, p15, _, _, rfl, rfl, _, _, rfl, rfl, ?_⟩
    refine ⟨_, rfl, _, _, rfl, rfl, p15, _, _, rfl, rfl, _, _, rfl, rfl, (by show (0 : Int) < 10 ^ (15 : Int).toNat - 1; decide), _, _, rfl, rfl, ?_⟩
    have e0 := Int.emod_nonneg (a1 * 33554432 + a2) (show (2 * 10 ^ (15 : Int).toNat - 1 : Int) ≠ 0 by decide)
    have e1 := Int.emod_lt_of_pos (a1 * 33554432 + a2) (show (0 : Int) < 2 * 10 ^ (15 : Int).toNat - 1 by decide)
    have g0 := Int.emod_nonneg (a3 * 33554432 + a4) (show (10 ^ (15 : Int).toNat - 1 : Int) ≠ 0 by decide)
    have g1 := Int.emod_lt_of_pos (a3 * 33554432 + a4) (show (0 : Int) < 10 ^ (15 : Int).toNat - 1 by decide)
    rw [t15] at e0 e1 g0 g1 ⊢
    refine ⟨_, _, rfl, (by show (0 : Int) < 1 + (a3 * 33554432 + a4) % (1000000000000000 - 1); omega), Nat.lt_of_lt_of_le (show (1 + (a3 * 33554432 + a4) % (1000000000000000 - 1) : Int).natAbs < 2 ^ 50 by omega) (by unfold lim; exact pow_le (by decide)), fun p hp => ?_⟩
    exact q _ _ _ (hd5.keep (same_new hp _)) (s05.trans ((same_new hp _).sd d)) (dv_low (by omega)) (show Bd 50 _ from Bd.of (by omega) (by omega) (by omega))
theorem c__law_piece (T : Txt K mg ad) : CalB P w K mg base true 3 "_law_piece" ["_law_drawn_here", "_law_far"] (spDPieceN K) := by
  have C__law_draw := c__law_draw (P := P) (w := w) (base := base) T
  have C__law_part := c__law_part (P := P) (w := w) (base := base) T
  have C__law_under := c__law_under (P := P) (w := w) (base := base) T
  refine T.t__law_piece.calN sc__law_piece (fun _ _ _ _ _ _ => by2 fun _ _ => rfl) (fun vs H Q E h => ?_) (fun f cdv A outer s H vs Q E hr h => ?_)
  · obtain ⟨_, _, _, _, rfl, _⟩ := h; rfl
  obtain ⟨d, c, L, far, rfl, hd, q⟩ := h
  refine ⟨_, (pss_cons (ps_set (i := 2) sc__law_piece.nd rfl (Or.inl rfl) (pe_cB C__law_draw (hr.mono (by decide)) pass01 (pa_name (pv 0) (pa_const pe_int pa_nil)))) (pss_cons (ps_set (i := 3) sc__law_piece.nd rfl (Or.inl rfl) (pe_cB C__law_part (hr.mono (by decide)) pass01 (pa_name (pv 0) (pa_name (pv 1) pa_nil)))) (pss_cons (ps_if (pt_cmpR op_lt (pv 2) pe_int (nomark _)) (pss_one (ps_ret (pe_tup (pa_const pe_str (pa_name (pv 3) pa_nil))))) pss_nil) (pss_cons (ps_if (pt_cmpR op_lt (pv 2) pe_int (nomark _)) (pss_one (ps_ret (pe_tup (pa_const pe_str (pa_name (pv 3) pa_nil))))) pss_nil) (pss_cons (ps_set (i := 4) sc__law_piece.nd rfl (Or.inl rfl) (pe_cB C__law_part (hr.mono (by decide)) pass01 (pa_name (pv 0) (pa_name (pv 1) pa_nil)))) (pss_cons (ps_if (pt_val (pe_cB C__law_under (hr.mono (by decide)) pass01 (pa_name (pv 4) (pa_name (pv 3) pa_nil)))) (pss_one (ps_par (i := 3) (j := 4) rfl sc__law_piece.nd rfl rfl (by decide) rfl rfl (pa_name (pv 4) (pa_name (pv 3) pa_nil)) rfl)) pss_nil) (pss_one (ps_ret (pe_tup (pa_const pe_str (pa_name (pv 3) (pa_name (pv 4) pa_nil)))))))))))), ?_⟩
  refine ⟨_, rfl, d, c, L, 5, rfl, hd, by decide, fun x1 H1 x10 x11 hd1 s1 => ?_⟩
  refine ⟨_, rfl, _, rfl, d, c, L, far, rfl, hd1, fun v2 H2 q2 hd2 s2 hv2 b2 => ?_⟩
  have s02 := s1.trans s2
  refine ⟨_, rfl, _, _, rfl, rfl, _, rfl, ?_⟩
  refine ite2 (fun _ => ?_) (fun _ => ?_)
  · refine ⟨_, rfl, (by show 2 ≤ sizeLine; decide), fun p hp => ?_⟩
    exact q _ _ (.gap q2) (hd2.keep (same_new hp _)) (s02.trans ((same_new hp _).sd d)) (DV.upd2 hp (.str _) hv2) trivial b2
  refine ⟨_, rfl, _, _, rfl, rfl, _, rfl, ?_⟩
  refine ite2 (fun _ => ?_) (fun _ => ?_)
  · refine ⟨_, rfl, (by show 2 ≤ sizeLine; decide), fun p hp => ?_⟩
    exact q _ _ (.glass q2) (hd2.keep (same_new hp _)) (s02.trans ((same_new hp _).sd d)) (DV.upd2 hp (.str _) hv2) trivial b2
  refine ⟨_, rfl, _, rfl, d, c, L, far, rfl, hd2, fun v3 H3 q3 hd3 s3 hv3 b3 => ?_⟩
  have s03 := s02.trans s3
  have hv23 := hd2.dv s3 hv2
  refine ⟨_, rfl, _, rfl, _, _, .cons hv3 (.cons hv23 .nil), ⟨_, _, rfl, b3.sm (pb_le far), b2.sm (pb_le far), rfl⟩, fun b H4 s4 hb => ?_⟩
  obtain rfl := hb.bl_of
  refine ⟨_, rfl, ?_⟩
  have hd4 := hd3.keep s4
  have s04 := s03.trans (s4.sd d)
  refine ite2 (fun cc => ?_) (fun cc => ?_)
  · have cc : q3 < q2 := of_decide_eq_true cc
    refine ⟨_, rfl, _, rfl, _, _, rfl, ?_⟩
    refine ⟨_, rfl, _, rfl, (by show 3 ≤ sizeLine; decide), fun p hp => ?_⟩
    exact q _ _ (.stop q3 q2) (hd4.keep (same_new hp _)) (s04.trans ((same_new hp _).sd d)) (DV.upd3 hp (.str _) (hv3.keep s4) (hv23.keep s4)) (show ¬ q2 < q3 by grind) ⟨b3, b2⟩
  · have cc : ¬ q3 < q2 := fun z => cc (decide_eq_true z)
    refine ⟨_, rfl, _, rfl, (by show 3 ≤ sizeLine; decide), fun p hp => ?_⟩
    exact q _ _ (.stop q2 q3) (hd4.keep (same_new hp _)) (s04.trans ((same_new hp _).sd d)) (DV.upd3 hp (.str _) (hv23.keep s4) (hv3.keep s4)) cc ⟨b2, b3⟩
end
end K50
namespace K50
open PySem L2 Lib Fr Op
seal PE PT PW PA PS PSs PG PGs PI PO PIfs
local macro_rules | `(tactic| walk_at "Zs") => `(tactic| first | with_reducible assumption | with_reducible exact Same.refl _ | exact zs1 (by with_reducible assumption) (by walk_at "Zs") | exact zs2 (by with_reducible assumption) (by walk_at "Zs"))
local macro_rules | `(tactic| walk_at "Zd") => `(tactic| first | with_reducible assumption | with_reducible exact DV.int _ | with_reducible exact DV.str _ | with_reducible exact DV.bl _ | with_reducible exact DV.non | exact zd1 (by first | with_reducible assumption | assumption) (by walk_at "Zs") | with_reducible exact dN (by assumption) _ | with_reducible exact dO (by assumption) _ | exact zd2 (by with_reducible assumption) (by walk_at "Zs") (by walk_at "Zd") (by walk_at "Zd") | exact zd3 (by with_reducible assumption) (by walk_at "Zs") (by walk_at "Zd") (by walk_at "Zd") (by walk_at "Zd") | exact zd4 (by with_reducible assumption) (by walk_at "Zs") (by walk_at "Zd") (by walk_at "Zd") (by walk_at "Zd") (by walk_at "Zd"))
local macro_rules | `(tactic| walk_at "Zt") => `(tactic| first | assumption | exact zt1 (by assumption) (by walk_at "Zs") | exact zt2 (by walk_at "Zs"))
local macro_rules | `(tactic| walk_at "Zl") => `(tactic| first | assumption | exact zl1 (by assumption) (by walk_at "Zs") | exact zl2 (by walk_at "Zs"))
local macro_rules | `(tactic| walk_at "Zv") => `(tactic| first | exact DVs.nil | exact DVs.cons (by walk_at "Zd") (by walk_at "Zv"))
local macro_rules | `(tactic| walk_at "Zb") => `(tactic| first | with_reducible assumption | exact bd_zero 1 (by decide) | exact bd_one 1 (by decide) | with_reducible exact Bd.mul (by walk_at "Zb") (by walk_at "Zb") | with_reducible exact Bd.add (by walk_at "Zb") (by walk_at "Zb") | with_reducible exact Bd.sub (by walk_at "Zb") (by walk_at "Zb") | with_reducible exact Tb.a (by with_reducible assumption) | with_reducible exact Tb.b (by with_reducible assumption) | with_reducible exact Tb.c (by with_reducible assumption) | with_reducible exact Tb.d (by with_reducible assumption) | with_reducible exact Rb.y (by with_reducible assumption) | with_reducible exact Rb.u (by with_reducible assumption))
local macro_rules | `(tactic| walk_at "Zm") => `(tactic| first | with_reducible assumption | with_reducible exact Sm.zero | with_reducible exact Sm.one | exact Bd.sm (by walk_at "Zb") (by first | decide | omega))
local macro_rules | `(tactic| walk_at "Zr") => `(tactic| first | exact ⟨_, _, rfl, by walk_at "Zm", by walk_at "Zm", rfl⟩ | exact ⟨_, _, rfl, by walk_at "Zm", by walk_at "Zm", by assumption, rfl⟩)
local macro_rules | `(tactic| walk_at "Zc") => `(tactic| (refine ⟨_, _, by walk_at "Zv", by walk_at "Zr", fun v H' s hv => ?_⟩; (first | (obtain rfl := DV.bl_of hv) | (have := (show DV _ _ _ (frD _) from hv); clear this) | (obtain ⟨a, x1, x2, x3, x4, rfl, ha, h1, h2, h3, h4⟩ := DV.t4 hv) | (obtain ⟨a, x1, x2, x3, rfl, ha, h1, h2, h3⟩ := DV.t3 hv) | (obtain ⟨a, x1, x2, rfl, ha, h1, h2⟩ := DV.t2 hv) | skip)))
local macro_rules | `(tactic| walk_at "Zp") => `(tactic| first | refine ⟨by (show 2 ≤ sizeLine; decide), fun p hp => ?_⟩ | refine ⟨by (show 3 ≤ sizeLine; decide), fun p hp => ?_⟩ | refine ⟨by (show 4 ≤ sizeLine; decide), fun p hp => ?_⟩)
local macro_rules | `(tactic| walk_at "Zn") => `(tactic| first | refine ⟨_, rfl, ?_⟩ | refine ⟨_, _, _, _, rfl, rfl, by walk_at "Zt", by rfl, ?_⟩ | refine ⟨_, _, rfl, rfl, ?_⟩)
local macro_rules | `(tactic| walk_at "Z1") => `(tactic| first | walk_at "Zn" | walk_at "Zp" | walk_at "Zc" | refine iteF ?_ | refine iteT ?_)
local macro_rules | `(tactic| walk_at "Z") => `(tactic| repeat walk_at "Z1")
section
variable {P : Program} {w : World} {K : PySem.W.Frag} {mg : Str → Option Value} {base : Heap} {ad : Adr} {c : Bool}
theorem c__law_plus (T : Txt K mg ad) : CalB P w K mg base true 3 "_law_plus" ["_law_one", "_law_other"] (PR K (RBin fun p q => p + q)) := by
  have C__law_low := c__law_low (P := P) (w := w) (base := base) T
  refine T.t__law_plus.calN sc__law_plus (fun _ _ _ _ _ _ => by2 fun _ _ => rfl) (fun vs H Q E h => ?_) (fun f cdv A outer s H vs Q E hr h => ?_)
  · obtain ⟨_, _, dv, ⟨_, _, rfl, _⟩, _⟩ := h; exact dv.len
  obtain ⟨_, _, dv, ⟨p, q, rfl, sp, sq, rfl⟩, k⟩ := h
  obtain ⟨_, _, rfl, hx, hy⟩ := dv.two
  obtain ⟨a, rfl, ha⟩ := hx.fr
  obtain ⟨b, rfl, hb⟩ := hy.fr
  refine ⟨_, (pss_one (ps_ret (pe_cB C__law_low (hr.mono (by decide)) pass01 (pa_bin (pe_op op_add (pe_op op_mulW (pe_ix ix_tup (pv 0) pe_int (fun _ _ => rfl)) (pe_ix ix_tup (pv 1) pe_int (fun _ _ => rfl))) (pe_op op_mulW (pe_ix ix_tup (pv 1) pe_int (fun _ _ => rfl)) (pe_ix ix_tup (pv 0) pe_int (fun _ _ => rfl)))) (pa_bin (pe_op op_mulW (pe_ix ix_tup (pv 0) pe_int (fun _ _ => rfl)) (pe_ix ix_tup (pv 1) pe_int (fun _ _ => rfl))) pa_nil))))), ?_⟩
  refine ⟨_, rfl, a, _, _, _, rfl, rfl, ha, rfl, _, rfl, b, _, _, _, rfl, rfl, hb, rfl, _, _, rfl, rfl, mulW sp.n sq.dn, ?_⟩
  refine ⟨_, rfl, b, _, _, _, rfl, rfl, hb, rfl, _, rfl, a, _, _, _, rfl, rfl, ha, rfl, _, _, rfl, rfl, mulW sq.n sp.dn, _, _, rfl, rfl, ?_⟩
  refine ⟨_, rfl, a, _, _, _, rfl, rfl, ha, rfl, _, rfl, b, _, _, _, rfl, rfl, hb, rfl, _, _, rfl, rfl, mulW sp.dn sq.dn, ?_⟩
  refine ⟨_, _, rfl, Int.mul_pos (denp p) (denp q), mul_lim sp.dn sq.dn, fun r hr => k _ _ (same_new hr _) ?_⟩
  have e := dv_low (K := K) (H := H) (t := p.num * (q.den : Int) + q.num * (p.den : Int)) (b := (p.den : Int) * (q.den : Int)) (p := r) (den_mul0 p q)
  rw [Fr.sum_rat] at e
  exact e
theorem c__law_less (T : Txt K mg ad) : CalB P w K mg base true 4 "_law_less" ["_law_one", "_law_other"] (PR K (RBin fun p q => p - q)) := by
  have C__law_plus := c__law_plus (P := P) (w := w) (base := base) T
  refine T.t__law_less.calN sc__law_less (fun _ _ _ _ _ _ => by2 fun _ _ => rfl) (fun vs H Q E h => ?_) (fun f cdv A outer s H vs Q E hr h => ?_)
  · obtain ⟨_, _, dv, ⟨_, _, rfl, _⟩, _⟩ := h; exact dv.len
  obtain ⟨_, _, dv, ⟨p, q, rfl, sp, sq, rfl⟩, k⟩ := h
  obtain ⟨_, _, rfl, hx, hy⟩ := dv.two
  obtain ⟨b, rfl, hb⟩ := hy.fr
  refine ⟨_, (pss_one (ps_ret (pe_cB C__law_plus (hr.mono (by decide)) pass01 (pa_name (pv 0) (pa_tuple (pe_tup (pa_bin (pe_op op_sub pe_int (pe_ix ix_tup (pv 1) pe_int (fun _ _ => rfl))) (pa_sub (pe_ix ix_tup (pv 1) pe_int (fun _ _ => rfl)) pa_nil))) pa_nil))))), ?_⟩
  refine ⟨_, rfl, _, rfl, b, _, _, _, rfl, rfl, hb, rfl, _, _, rfl, rfl, _, rfl, b, _, _, _, rfl, rfl, hb, rfl, (by show 2 ≤ sizeLine; decide), fun p2 hp2 => ?_⟩
  have s0 := same_new hp2 (.tup [.int (0 - q.num), .int (q.den : Int)])
  have dn : DV K (upd H p2 (.tup [.int (0 - q.num), .int (q.den : Int)])) (.ref p2) (frD (-q)) := by
    rw [frD_neg]
    exact .tup (SqT.of upd_same) (.cons (.int _) (.cons (.int _) .nil))
  refine ⟨_, _, .cons (hx.keep s0) (.cons dn .nil), ⟨_, _, rfl, sp, sq.neg, rfl⟩, fun v H1 s1 hv => k _ _ (s0.trans s1) ?_⟩
  have e : p + -q = p - q := (Rat.sub_eq_add_neg p q).symm
  show DV K H1 v (frD (p - q))
  rw [← e]
  exact hv
theorem c__law_lamp (T : Txt K mg ad) : CalB P w K mg base true 4 "_law_lamp" ["_law_drawn_here"] (spLamp K) := by
  have C__law_draw := c__law_draw (P := P) (w := w) (base := base) T
  have C__law_part := c__law_part (P := P) (w := w) (base := base) T
  have C__law_under := c__law_under (P := P) (w := w) (base := base) T
  refine T.t__law_lamp.calN sc__law_lamp (fun _ _ _ _ _ _ => by1 fun _ => rfl) (fun vs H Q E h => ?_) (fun f cdv A outer s H vs Q E hr h => ?_)
  · obtain ⟨_, _, _, rfl, _⟩ := h; rfl
  obtain ⟨d, c, L, rfl, hd, q⟩ := h
  obtain ⟨tE, hE, kE⟩ : ∃ t, PSs (cxB true P w K mg base ["_law_drawn_here", "_law_first", "_law_last"] "_law_lamp" (defScope s__law_lamp) f cdv A outer s H E).nox ((defBody s__law_lamp).drop 4) t ∧ ∀ (D : Ends) (fv lv : V) (f0 l0 : Rat) (H1 : Hp), DrA H1 d c L → SD d H H1 → DV K H1 fv (frD f0) → DV K H1 lv (frD l0) → Bd 12 f0 → Bd 12 l0 → ¬ l0 < f0 → (∀ (v : V) (H' : Hp) (x : Lamp), DrA H' d c L → SD d H H' → DV K H' v (lampD x) → LpB 12 x → D.rt v H') → t D [some (.ref d), some fv, some lv] H1 := by
    refine ⟨_, (pss_one (ps_ret (pe_tup (pa_call (pe_cB C__law_part (hr.mono (by decide)) pass01 (pa_name (pv 0) (pa_const pe_bl pa_nil))) (pa_call (pe_cB C__law_part (hr.mono (by decide)) pass01 (pa_name (pv 0) (pa_const pe_bl pa_nil))) (pa_name (pv 1) (pa_name (pv 2) pa_nil))))))), ?_⟩
    intro D fv lv f0 l0 H1 hd1 s1 hf hl bf bl ord q
    refine ⟨_, rfl, d, c, L, false, rfl, hd1, fun v2 H2 q2 hd2 s2 hv2 b2 => ?_⟩
    refine ⟨_, rfl, d, c, L, false, rfl, hd2, fun v3 H3 q3 hd3 s3 hv3 b3 => ?_⟩
    refine ⟨_, rfl, _, rfl, (by show 4 ≤ sizeLine; decide), fun p hp => ?_⟩
    have hf3 := hd2.dv s3 (hd1.dv s2 hf)
    have hl3 := hd2.dv s3 (hd1.dv s2 hl)
    exact q _ _ ⟨q2, q3, f0, l0⟩ (hd3.keep (same_new hp _)) (s1.trans (s2.trans (s3.trans ((same_new hp _).sd d)))) (DV.upd4 hp (hd2.dv s3 hv2) hv3 hf3 hl3) ⟨b2, b3, bf, bl, ord⟩
  obtain ⟨tR, hR, kR⟩ : ∃ t, PSs (cxB true P w K mg base ["_law_drawn_here", "_law_first", "_law_last"] "_law_lamp" (defScope s__law_lamp) f cdv A outer s H E).nox ((defBody s__law_lamp).drop 3) t ∧ ∀ (D : Ends) (fv lv : V) (f0 l0 : Rat) (H1 : Hp), DrA H1 d c L → SD d H H1 → DV K H1 fv (frD f0) → DV K H1 lv (frD l0) → Bd 12 f0 → Bd 12 l0 → (∀ (v : V) (H' : Hp) (x : Lamp), DrA H' d c L → SD d H H' → DV K H' v (lampD x) → LpB 12 x → D.rt v H') → t D [some (.ref d), some fv, some lv] H1 := by
    refine ⟨_, (pss_cons (ps_if (pt_val (pe_cB C__law_under (hr.mono (by decide)) pass01 (pa_name (pv 2) (pa_name (pv 1) pa_nil)))) (pss_one (ps_par (i := 1) (j := 2) rfl sc__law_lamp.nd rfl rfl (by decide) rfl rfl (pa_name (pv 2) (pa_name (pv 1) pa_nil)) rfl)) pss_nil) hE), ?_⟩
    intro D fv lv f0 l0 H1 hd1 s1 hf hl bf bl q
    refine ⟨_, rfl, _, rfl, _, _, .cons hl (.cons hf .nil), ⟨_, _, rfl, bl.sm (by decide), bf.sm (by decide), rfl⟩, fun b H4 s4 hb => ?_⟩
    obtain rfl := hb.bl_of
    refine ⟨_, rfl, ?_⟩
    have hd4 := hd1.keep s4
    have s04 := s1.trans (s4.sd d)
    refine ite2 (fun cc => ?_) (fun cc => ?_)
    · have cc : l0 < f0 := of_decide_eq_true cc
      refine ⟨_, rfl, _, rfl, _, _, rfl, ?_⟩
      exact kE _ lv fv l0 f0 H4 hd4 s04 (hl.keep s4) (hf.keep s4) bl bf (by grind) q
    · have cc : ¬ l0 < f0 := fun z => cc (decide_eq_true z)
      exact kE _ fv lv f0 l0 H4 hd4 s04 (hf.keep s4) (hl.keep s4) bf bl cc q
  refine ⟨_, (pss_cons (ps_set (i := 1) sc__law_lamp.nd rfl (Or.inl rfl) (pe_cB C__law_part (hr.mono (by decide)) pass01 (pa_name (pv 0) (pa_const pe_bl pa_nil)))) (pss_cons (ps_set (i := 2) sc__law_lamp.nd rfl (Or.inl rfl) (pe_cB C__law_part (hr.mono (by decide)) pass01 (pa_name (pv 0) (pa_const pe_bl pa_nil)))) (pss_cons (ps_if (pt_cmpR op_eq (pe_cB C__law_draw (hr.mono (by decide)) pass01 (pa_name (pv 0) (pa_const pe_int pa_nil))) pe_int (nomark _)) (pss_one (ps_set (i := 2) sc__law_lamp.nd rfl (Or.inl rfl) (pv 1))) pss_nil) hR))), ?_⟩
  refine ⟨_, rfl, d, c, L, false, rfl, hd, fun v1 H1 q1 hd1 s1 hv1 b1 => ?_⟩
  refine ⟨_, rfl, d, c, L, false, rfl, hd1, fun v2 H2 q2 hd2 s2 hv2 b2 => ?_⟩
  have hv12 := hd1.dv s2 hv1
  refine ⟨_, rfl, d, c, L, 6, rfl, hd2, by decide, fun x3 H3 x30 x31 hd3 s3 => ?_⟩
  have k1 := hd2.dv s3 hv12
  have k2 := hd2.dv s3 hv2
  have s03 := s1.trans (s2.trans s3)
  refine ⟨rfl, _, rfl, ite2 (fun _ => ?_) (fun _ => ?_)⟩
  · exact ⟨_, rfl, kR _ v1 v1 q1 q1 H3 hd3 s03 k1 k1 b1 b1 q⟩
  · exact kR _ v1 v2 q1 q2 H3 hd3 s03 k1 k2 b1 b2 q
theorem c__law_wide (T : Txt K mg ad) : CalB P w K mg base true 5 "_law_wide" ["_law_drawn_here", "_law_many"] (spWide K) := by
  have C__law_draw := c__law_draw (P := P) (w := w) (base := base) T
  have C__law_piece := c__law_piece (P := P) (w := w) (base := base) T
  have C__law_less := c__law_less (P := P) (w := w) (base := base) T
  have C__law_plus := c__law_plus (P := P) (w := w) (base := base) T
  refine T.t__law_wide.calN sc__law_wide (fun _ _ _ _ _ _ => by2 fun _ _ => rfl) (fun vs H Q E h => ?_) (fun f cdv A outer s H vs Q E hr h => ?_)
  · obtain ⟨_, _, _, _, rfl, _⟩ := h; rfl
  obtain ⟨d, c, L, k, rfl, hd, k0, k8, q⟩ := h
  obtain ⟨tR, hR, kR⟩ : ∃ t, PSs (cxB true P w K mg base ["_law_drawn_here", "_law_many", "_law_bench", "_law_k", "_law_piece_here", "_law_low_here"] "_law_wide" (defScope s__law_wide) f cdv A outer s H E).nox ((forBody ((defBody s__law_wide).getD 1 (.Pass ⟨0, 0, 0, 0⟩))).drop 2) t ∧ ∀ (D : Ends) (l : Addr) (c3 c5 : Option V) (pv : V) (pc : Pc) (vs : List V) (ps : List Pc) (i : Nat) (H1 : Hp), H l = none → DrA H1 d c L → SD d H H1 → H1 l = some (.lst vs) → DVs K H1 vs (ps.map pcD) → ps.length ≤ i → i < 8 → (∀ p ∈ ps, p.ok) → (∀ p ∈ ps, p.bd 18) → DV K H1 pv (pcD pc) → pc.ok → pc.bd 18 →
      (∀ (vs : List V) (ps : List Pc) (H' : Hp), DrA H' d c L → SD d H H' → H' l = some (.lst vs) → DVs K H' vs (ps.map pcD) → ps.length ≤ i + 1 → (∀ p ∈ ps, p.ok) → (∀ p ∈ ps, p.bd 18) → D.nx [some (.ref d), some (.int k), some (.ref l), c3, some pv, c5] H') → t D [some (.ref d), some (.int k), some (.ref l), c3, some pv, c5] H1 := by
    refine ⟨_, (pss_one (ps_expr (pe_bm PySem.F.plainAttrs_list PySem.F.slot_list_append PySem.F.type_list_append mt_append (pv 2) (pa_name (pv 4) pa_nil)))), ?_⟩
    intro D l c3 c5 pv pc vs ps i H1 nl hd1 s1 hlv hvs hle hi8 ok bd hpv o b q
    have vl : vs.length = ps.length := by have := hvs.len; rw [List.length_map] at this; exact this
    obtain ⟨da, dn, _, hdd⟩ := hd1.d
    have nld : d ≠ l := fun e => by
      obtain ⟨da, dn, _, hdd⟩ := hd.d
      rw [e, nl] at hdd; cases hdd
    have nlc : c ≠ l := fun e => by
      have := hd.c
      rw [e, nl] at this; cases this
    refine ⟨_, rfl, .inl ⟨rfl, _, SqL.of hlv⟩, _, rfl, l, vs, _, rfl, rfl, hlv, small1000 (by omega), ?_⟩
    have uT := sameT_upd hlv (.lst (vs ++ [pv]))
    refine q (vs ++ [pv]) (ps ++ [pc]) _ (hd1.keepD sd_upd nld nlc) ?_ upd_same ?_ (len_step hle) ?_ ?_
    · intro b o nb e
      rw [upd_ne (ne_of_none e nl)]
      exact s1 _ _ nb e
    · rw [List.map_append]
      exact dvs_keepT uT (by rw [← List.map_append]; exact noLs_map noL_pc _) (hvs.append (.cons hpv .nil))
    · intro p' hp'
      rcases List.mem_append.mp hp' with h | h
      · exact ok p' h
      · rw [List.mem_singleton.mp h]; exact o
    · intro p' hp'
      rcases List.mem_append.mp hp' with h | h
      · exact bd p' h
      · rw [List.mem_singleton.mp h]; exact b
  refine ⟨_, (pss_cons (ps_set (i := 2) sc__law_wide.nd rfl (Or.inl rfl) (pe_lst pa_nil)) (pss_cons (ps_for PassesOwn.never rfl (pi_range1 rfl T.range (pa_name (pv 1) pa_nil)) (pg_name (i := 3) sc__law_wide.nd rfl (by first | exact Or.inl rfl | exact Or.inr rfl)) (pss_cons (ps_set (i := 4) sc__law_wide.nd rfl (Or.inl rfl) (pe_cB C__law_piece (hr.mono (by decide)) pass01 (pa_name (pv 0) (pa_const pe_bl pa_nil)))) (pss_cons (ps_if (PW.pt (pw_and (pt_cmpR op_eq (pe_ix ix_tup (pv 4) pe_int (fun _ _ => rfl)) pe_str (nomark _)) (pw_and1 (pt_cmpR op_gt (pe_cB C__law_draw (hr.mono (by decide)) pass01 (pa_name (pv 0) (pa_const pe_int pa_nil))) pe_int (nomark _))))) (pss_cons (ps_set (i := 5) sc__law_wide.nd rfl (Or.inl rfl) (pe_cB C__law_less (hr.mono (by decide)) pass01 (pa_sub (pe_ix ix_tup (pv 4) pe_int (fun _ _ => rfl)) (pa_tuple (pe_tup (pa_const pe_int (pa_const pe_int pa_nil))) pa_nil)))) (pss_one (ps_set (i := 4) sc__law_wide.nd rfl (Or.inl rfl) (pe_tup (pa_const pe_str (pa_name (pv 5) (pa_call (pe_cB C__law_plus (hr.mono (by decide)) pass01 (pa_sub (pe_ix ix_tup (pv 4) pe_int (fun _ _ => rfl)) (pa_tuple (pe_tup (pa_const pe_int (pa_const pe_int pa_nil))) pa_nil))) pa_nil))))))) pss_nil) hR))) (pss_one (ps_ret (pv 2))))), ?_⟩
  refine ⟨(by show 0 ≤ sizeLine; decide), fun l nl => ?_⟩
  have u0 := same_new nl (.lst [])
  have hl0 : upd H l (.lst []) l = some (.lst []) := upd_same
  generalize upd H l (.lst []) = H0 at u0 hl0 ⊢
  have nld : l ≠ d := fun e => by
    obtain ⟨da, dn, _, hdd⟩ := hd.d
    rw [← e, nl] at hdd; cases hdd
  refine ⟨_, rfl, _, rfl, by omega, by omega, ?_⟩
  refine for_range (lo := 0) (n := k.toNat) (fun i σ H' => ∃ c3 c4 c5 vs ps, σ = [some (.ref d), some (.int k), some (.ref l), c3, c4, c5] ∧ DrA H' d c L ∧ SD d H H' ∧ H' l = some (.lst vs) ∧ DVs K H' vs (ps.map pcD) ∧ ps.length ≤ i ∧ (∀ p ∈ ps, p.ok) ∧ ∀ p ∈ ps, p.bd 18) ⟨_, _, _, [], [], rfl, hd.keep u0, u0.sd d, hl0, .nil, Nat.le_refl _, (fun _ h => nomatch h), fun _ h => nomatch h⟩ ?_ ?_
  · rintro i σ H' hi ⟨c3, c4, c5, vs, ps, rfl, hd1, s1, hlv, hvs, hle, ok, bd⟩
    have hi8 : i < 8 := by omega
    refine ⟨_, rfl, d, c, L, false, rfl, hd1, fun v2 H2 pc hd2 s2 hv2 o2 b2 => ?_⟩
    have b2 : pc.bd 12 := b2
    have hlv2 := s2 l _ nld hlv
    have hvs2 : DVs K H2 vs (ps.map pcD) := dvs_keepT (hd1.t s2) (noLs_map noL_pc _) hvs
    have s02 := s1.trans s2
    cases pc with
    | gap e =>
      obtain ⟨pa, z, z1, rfl, hpa, hz, hz1⟩ := DV.t2 hv2
      obtain rfl := hz.str_of
      exact ⟨_, rfl, pa, _, _, _, rfl, rfl, hpa, rfl, rfl, _, rfl, iteF' (by decide) (iteF (kR _ l _ _ _ (.gap e) vs ps i H2 nl hd2 s02 hlv2 hvs2 hle hi8 ok bd hv2 o2 (Pc.bd.mono (by decide) b2) (fun vs ps H' hd' s' hl' hv' hle' ok' bd' => ⟨_, _, _, vs, ps, rfl, hd', s', hl', hv', hle', ok', bd'⟩)))⟩
    | glass e =>
      obtain ⟨pa, z, z1, rfl, hpa, hz, hz1⟩ := DV.t2 hv2
      obtain rfl := hz.str_of
      exact ⟨_, rfl, pa, _, _, _, rfl, rfl, hpa, rfl, rfl, _, rfl, iteF' (by decide) (iteF (kR _ l _ _ _ (.glass e) vs ps i H2 nl hd2 s02 hlv2 hvs2 hle hi8 ok bd hv2 o2 (Pc.bd.mono (by decide) b2) (fun vs ps H' hd' s' hl' hv' hle' ok' bd' => ⟨_, _, _, vs, ps, rfl, hd', s', hl', hv', hle', ok', bd'⟩)))⟩
    | stop lo hi' =>
      have b2 : Bd 12 lo ∧ Bd 12 hi' := b2
      have o2 : ¬ hi' < lo := o2
      obtain ⟨pa, z, z1, z2, rfl, hpa, hz, hz1, hz2⟩ := DV.t3 hv2
      obtain rfl := hz.str_of
      refine ⟨_, rfl, pa, _, _, _, rfl, rfl, hpa, rfl, rfl, _, rfl, iteT' (by decide) ?_⟩
      refine ⟨_, rfl, d, c, L, 3, rfl, hd2, by decide, fun x3 H3 x30 x31 hd3 s3 => ?_⟩
      have hlv3 := s3 l _ nld hlv2
      have hvs3 : DVs K H3 vs (ps.map pcD) := dvs_keepT (hd2.t s3) (noLs_map noL_pc _) hvs2
      have s03 := s02.trans s3
      have hv23 := hd2.dv s3 hv2
      obtain ⟨pa', w0, w1, w2, ew, hpa3, hw0, hw1, hw2⟩ := DV.t3 hv23
      cases ew
      obtain rfl := hw0.str_of
      refine ⟨_, _, rfl, rfl, _, rfl, ite2 (fun _ => ?_) (fun _ => ?_)⟩
      · refine ⟨_, rfl, pa, _, _, _, rfl, rfl, hpa3, rfl, (by show 2 ≤ sizeLine; decide), fun p4 hp4 => ?_⟩
        have b9 : Bd 4 ((9 : Int) : Rat) := bd_int (by decide) (by decide)
        have u4 := same_new hp4 (.tup [.int 9, .int 1])
        have d4 : DV K (upd H3 p4 (.tup [.int 9, .int 1])) (.ref p4) (frD ((9 : Int) : Rat)) := fr00
        generalize upd H3 p4 (.tup [.int 9, .int 1]) = H4 at u4 d4 ⊢
        refine ⟨_, _, by walk_at "Zv", ⟨_, _, rfl, b2.1.sm (by decide), b9.sm (by decide), rfl⟩, fun v5 H5 s5 hv5 => ?_⟩
        refine ⟨_, rfl, _, rfl, pa, _, _, _, rfl, rfl, by walk_at "Zt", by rfl, (by show 2 ≤ sizeLine; decide), fun p6 hp6 => ?_⟩
        have u6 := same_new hp6 (.tup [.int 9, .int 1])
        have d6 : DV K (upd H5 p6 (.tup [.int 9, .int 1])) (.ref p6) (frD ((9 : Int) : Rat)) := fr00
        generalize upd H5 p6 (.tup [.int 9, .int 1]) = H6 at u6 d6 ⊢
        refine ⟨_, _, by walk_at "Zv", ⟨_, _, rfl, b2.2.sm (by decide), b9.sm (by decide), rfl⟩, fun v7 H7 s7 hv7 => ?_⟩
        refine ⟨(by show 3 ≤ sizeLine; decide), fun p8 hp8 => ?_⟩
        have u8 := same_new hp8 (.tup [.str "stop", v5, v7])
        have d8 : DV K (upd H7 p8 (.tup [.str "stop", v5, v7])) (.ref p8) (pcD (.stop (lo - ((9 : Int) : Rat)) (hi' + ((9 : Int) : Rat)))) := DV.upd3 hp8 (.str _) (by walk_at "Zd") hv7
        have s38 : Same H3 (upd H7 p8 (.tup [.str "stop", v5, v7])) := by walk_at "Zs"
        have n9 : (0 : Rat) ≤ ((9 : Int) : Rat) := by decide
        exact kR _ l _ _ _ (.stop (lo - ((9 : Int) : Rat)) (hi' + ((9 : Int) : Rat))) vs ps i _ nl (hd3.keep s38) (s03.trans (s38.sd d)) (s38 _ _ hlv3) (hvs3.keep s38) hle hi8 ok bd d8 (show ¬ hi' + ((9 : Int) : Rat) < lo - ((9 : Int) : Rat) by generalize ((9 : Int) : Rat) = y at n9; grind) ⟨(b2.1.sub b9).mono (by decide), (b2.2.add b9).mono (by decide)⟩ (fun vs ps H' hd' s' hl' hv' hle' ok' bd' => ⟨_, _, _, vs, ps, rfl, hd', s', hl', hv', hle', ok', bd'⟩)
      · exact kR _ l _ _ _ (.stop lo hi') vs ps i H3 nl hd3 s03 hlv3 hvs3 hle hi8 ok bd hv23 o2 ⟨b2.1.mono (by decide), b2.2.mono (by decide)⟩ (fun vs ps H' hd' s' hl' hv' hle' ok' bd' => ⟨_, _, _, vs, ps, rfl, hd', s', hl', hv', hle', ok', bd'⟩)
  · rintro σ H' ⟨c3, c4, c5, vs, ps, rfl, hd1, s1, hlv, hvs, hle, ok, bd⟩
    have k8' : k.toNat ≤ 8 := by omega
    exact ⟨_, rfl, q l H' vs ps hd1 s1 nl hlv hvs ⟨by omega, ok, bd⟩ (by omega)⟩
end
end K50
namespace K50
open PySem L2 Lib Fr Op
seal PE PT PW PA PS PSs PG PGs PI PO PIfs
section
variable {P : Program} {w : World} {K : PySem.W.Frag} {mg : Str → Option Value} {base : Heap} {ad : Adr} {c : Bool}
theorem k_NoBench (T : Txt K mg ad) : XMk P w K mg base 1 "NoBench" ad.NoBench := by
  refine T.ex.j_NoBench.xmk sc_NoBench_init (fun _ _ _ _ _ _ => by2 fun _ _ => rfl) (fun fI O f cdv A outer s H vs Q E hr h => ?_)
  obtain ⟨e, v, rfl, he, q⟩ := h
  refine ⟨_, (pss_cons (ps_binit O T.ex.m_BenchError (pa_name (pv 0) (pa_name (pv 1) pa_nil))) (pss_one (ps_setat O (pv 0) (pv 1)))), ?_⟩
  exact ⟨_, rfl, _, rfl, e, v, none, rfl, he, _, rfl, _, rfl, e, rfl, he, fun dx n1 n2 => q dx n1 n2⟩
theorem x_is_piece (T : Txt K mg ad) : CalB P w K mg base true 3 "is_piece" ["thing"] (spPiece K) := by
  have C_is_less := c_is_less (P := P) (w := w) (base := base) T
  have C_is_ratio := c_is_ratio_any (P := P) (w := w) (base := base) T
  refine T.t_is_piece.calN sc_is_piece (fun _ _ _ _ _ _ => by1 fun _ => rfl) (fun vs H Q E h => ?_) (fun f cdv A outer s H vs Q E hr h => ?_)
  · obtain ⟨_, _, rfl, _⟩ := h; rfl
  obtain ⟨v, d, rfl, hv, sm, q⟩ := h
  refine ⟨_, (pss_cons (ps_if (PW.pt (pw_or (pt_not (pt_val (pe_callB call_isiD rfl T.isinstance bt_isinstance (pa_name (pv 0) (pa_name (pe_bltn (v := .ty "tuple") rfl T.tuple bt_tuple rfl) pa_nil))))) (pw_or (pt_cmpR op_lt (pe_callB call_len_seq rfl T.len bt_len (pa_name (pv 0) pa_nil)) pe_int (nomark _)) (pw_or1 (pt_not (pt_val (pe_callB call_isiD rfl T.isinstance bt_isinstance (pa_sub (pe_ix ix_tup (pv 0) pe_int (fun _ _ => rfl)) (pa_name (pe_bltn (v := .ty "str") rfl T.str bt_str rfl) pa_nil))))))))) (pss_one (ps_ret pe_bl)) pss_nil) (pss_cons (ps_if (pt_not (pt_val (pe_callB (call_all rfl) rfl T.all bt_all (pa_cons (pe_comp ["part"] [none] rfl (pi_tup (pe_slice sl_tup (pv 0) (po_some pe_int) po_none)) (fun _ _ _ _ _ => (pg_name (i := 0) (show List.Nodup [("part" : Str)] by decide) rfl (by first | exact Or.inl rfl | exact Or.inr rfl))) (fun _ _ _ _ _ => pifs_nil) (fun _ _ _ _ _ => (pe_cB C_is_ratio (hr.mono (by decide)) pass01 (pa_name (pv 0) pa_nil))) (cap_nil (by decide) (by decide)) (by decide) rfl (by decide) rfl (nocap rfl)) pa_nil)))) (pss_one (ps_ret pe_bl)) pss_nil) (pss_cons (ps_if (pt_cmpR op_eq (pe_ix ix_tup (pv 0) pe_int (fun _ _ => rfl)) (pe_glob (v := .str "stop") rfl T.ex.m_STOP ⟨_, rfl⟩) (nomark _)) (pss_one (ps_ret (pe_and (pe_cmpR op_eq (pe_callB call_len_seq rfl T.len bt_len (pa_name (pv 0) pa_nil)) pe_int (nomark _)) (pe_one (pe_not (pe_cB C_is_less (hr.mono (by decide)) pass01 (pa_sub (pe_ix ix_tup (pv 0) pe_int (fun _ _ => rfl)) (pa_sub (pe_ix ix_tup (pv 0) pe_int (fun _ _ => rfl)) pa_nil)))))))) pss_nil) (pss_one (ps_ret (pe_and (pe_cmpR op_in_seq (pe_ix ix_tup (pv 0) pe_int (fun _ _ => rfl)) (pe_tup (pa_name (pe_glob (v := .str "gap") rfl T.ex.m_GAP ⟨_, rfl⟩) (pa_name (pe_glob (v := .str "glass") rfl T.ex.m_GLASS ⟨_, rfl⟩) pa_nil))) (by rfl)) (pe_one (pe_cmpR op_eq (pe_callB call_len_seq rfl T.len bt_len (pa_name (pv 0) pa_nil)) pe_int (nomark _))))))))), ?_⟩
  refine ⟨_, rfl, _, _, _, _, rfl, hv, isTup_b d, _, rfl, ?_⟩
  cases ht : isTupD d with
  | false =>
    refine iteT (iteT ?_)
    have e : pieceD d = false := by
      cases d with
      | tuple ds => cases ht
      | _ => rfl
    rw [e] at q
    exact q _ (Same.refl _)
  | true =>
    obtain ⟨ds, rfl⟩ := isTup_of ht
    obtain ⟨a, xs, rfl, ha, hds⟩ := hv.tup_of
    refine iteF ?_
    refine ⟨_, rfl, a, _, rfl, .inr ha, _, _, rfl, rfl, _, rfl, ?_⟩
    rcases ds with _ | ⟨d0, _ | ⟨d1, dr⟩⟩
    · obtain rfl := hds.nil_of
      exact iteT' (by decide) (iteT (q _ (Same.refl _)))
    · obtain ⟨x0, xs, rfl, h0, hds⟩ := hds.cons_of
      obtain rfl := hds.nil_of
      have e : pieceD (.tuple [d0]) = false := by cases d0 <;> rfl
      rw [e] at q
      exact iteT' (decide_eq_true (by show ((1 : Nat) : Int) < 2; decide)) (iteT (q _ (Same.refl _)))
    · obtain ⟨x0, xs, rfl, h0, hds⟩ := hds.cons_of
      obtain ⟨x1, xr, rfl, h1, hr'⟩ := hds.cons_of
      refine iteF' (decide_eq_false (by simp only [List.length_cons]; omega)) ?_
      refine ⟨_, rfl, a, _, _, _, rfl, rfl, ha, atI0, _, _, _, _, rfl, h0, isStr_b d0, _, rfl, ?_⟩
      cases hs : isStrD d0 with
      | false =>
        refine iteT ?_
        have e : pieceD (.tuple (d0 :: d1 :: dr)) = false := by
          cases d0 with
          | str z => cases hs
          | _ => rfl
        rw [e] at q
        exact q _ (Same.refl _)
      | true =>
        obtain ⟨z, rfl⟩ := isStr_of hs
        obtain rfl := h0.str_of
        refine iteF ?_
        refine ⟨_, rfl, _, rfl, a, _, rfl, ha, (fun e => by rw [sIx1] at e; simp only [List.length_cons] at e; omega), fun p hp => ⟨p, rfl, ⟨_, SqT.of upd_same⟩, ?_⟩⟩
        rw [cut1]
        have u1 := same_new hp (.tup ((V.str z :: x1 :: xr).drop 1))
        have hparts : DVs K (upd H p (.tup ((V.str z :: x1 :: xr).drop 1))) (x1 :: xr) (d1 :: dr) := (DVs.cons h1 hr').keep u1
        refine comp_tup0 (K := K) (a := p) (xs := x1 :: xr) (fun i σ ys H' => ∃ c0, σ = [c0] ∧ ys = ((d1 :: dr).take i).map (fun d => V.bl (ratD d)) ∧ Same (upd H p (.tup ((V.str z :: x1 :: xr).drop 1))) H') ⟨_, rfl, rfl, Same.refl _⟩ ?_ ?_ ?_
        · rintro i σ ys H' hi ⟨c0, rfl, rfl, s'⟩
          refine ⟨?_, SqT.of (s' _ _ upd_same)⟩
          have := (DVs.cons h1 hr').len
          have z1 := (sm _ rfl).1
          have z2 := small1000 (n := 1000) (by decide)
          simp only [List.length_cons] at *
          rw [List.length_map, List.length_take]
          omega
        · rintro i x σ ys H' hi ⟨c0, rfl, rfl, s'⟩
          obtain ⟨dx, hdx, hx⟩ := hparts.get hi
          refine ⟨_, rfl, _, dx, rfl, hx.keep s', nx (lt_of_get hi) ⟨_, rfl, ?_, s'⟩⟩
          have hlt := lt_of_get hdx
          rw [List.take_add_one, hdx, List.map_append]
          rfl
        · rintro σ ys H' p2 ⟨c0, rfl, rfl, s'⟩ hp2
          have u2 := same_new hp2 (.lst (((d1 :: dr).take (x1 :: xr).length).map (fun d => V.bl (ratD d))))
          have t2 := u1.trans (s'.trans u2)
          have el : (d1 :: dr).take (x1 :: xr).length = d1 :: dr := List.take_of_length_le (by have := (DVs.cons h1 hr').len; omega)
          refine ⟨p2, (d1 :: dr).map ratD, rfl, SqL.of (by rw [upd_same, el, List.map_map]; rfl), _, rfl, ?_⟩
          have ea : ((d1 :: dr).map ratD).all id = (d1 :: dr).all ratD := by rw [List.all_map]; rfl
          rw [ea]
          cases hall : (d1 :: dr).all ratD with
          | false =>
            refine iteT ?_
            have e : pieceD (.tuple (.str z :: d1 :: dr)) = false := by show ((d1 :: dr).all ratD && _) = false; rw [hall]; rfl
            rw [e] at q
            exact q _ t2
          | true =>
            refine iteF ?_
            have hall' := List.all_eq_true.mp hall
            refine ⟨_, rfl, a, _, _, _, rfl, rfl, ha.keep t2, atI0, rfl, _, rfl, ?_⟩
            rw [decS]
            by_cases hz : z = "stop"
            · subst hz
              refine iteT' (by decide) ?_
              have e : pieceD (.tuple (.str "stop" :: d1 :: dr)) = stopD (d1 :: dr) := by show ((d1 :: dr).all ratD && _) = _; rw [hall]; rfl
              rw [e] at q
              refine ⟨_, rfl, a, _, rfl, .inr (ha.keep t2), rfl, _, rfl, ?_⟩
              rw [decI]
              rcases dr with _ | ⟨d2, _ | ⟨d3, dr'⟩⟩
              · obtain rfl := hr'.nil_of
                have e3 : stopD [d1] = false := by
                  unfold stopD
                  split
                  · rename_i ee; cases ee
                  · rfl
                rw [e3] at q
                exact iteF' (decide_eq_false (by show ¬ ((2 : Nat) : Int) = 3; decide)) (q _ t2)
              · obtain ⟨x2, xr, rfl, h2, hr'⟩ := hr'.cons_of
                obtain rfl := hr'.nil_of
                obtain ⟨lo, rfl⟩ := ratD_of (hall' d1 (by simp))
                obtain ⟨hi, rfl⟩ := ratD_of (hall' d2 (by simp))
                refine iteT' (decide_eq_true (by show ((3 : Nat) : Int) = 3; decide)) ?_
                refine ⟨_, rfl, a, _, _, _, rfl, rfl, ha.keep t2, rfl, _, rfl, a, _, _, _, rfl, rfl, ha.keep t2, rfl, ?_⟩
                refine ⟨_, _, .cons (h2.keep t2) (.cons (h1.keep t2) .nil), ⟨hi, lo, rfl, (sm _ rfl).2 _ (by simp), (sm _ rfl).2 _ (by simp), rfl⟩, fun v H3 s3 hv => ?_⟩
                obtain rfl := hv.bl_of
                refine ⟨_, rfl, ?_⟩
                rw [stopD_fr] at q
                exact q _ (t2.trans s3)
              · obtain ⟨x2, xr, rfl, h2, hr'⟩ := hr'.cons_of
                obtain ⟨x3, xr, rfl, h3, hr'⟩ := hr'.cons_of
                refine iteF' (decide_eq_false (by simp only [List.length_cons]; omega)) ?_
                have e2 : stopD (d1 :: d2 :: d3 :: dr') = false := by
                  unfold stopD
                  split
                  · rename_i ee; cases ee
                  · rfl
                rw [e2] at q
                exact q _ t2
            · refine iteF' (decide_eq_false hz) ?_
              have e : pieceD (.tuple (.str z :: d1 :: dr)) = ((decide (z = "gap") || decide (z = "glass")) && dr.isEmpty) := by
                show ((d1 :: dr).all ratD && (if z = "stop" then _ else _)) = _
                rw [hall, if_neg hz]; rfl
              rw [e] at q
              refine ⟨_, rfl, a, _, _, _, rfl, rfl, ha.keep t2, atI0, (by show 2 ≤ sizeLine; decide), fun p3 hp3 => ?_⟩
              have u3 := same_new hp3 (.tup [.str "gap", .str "glass"])
              have t3 := t2.trans u3
              refine ⟨p3, _, rfl, .inr (SqT.of upd_same), rfl, rfl, _, rfl, ?_⟩
              have ein : (if false = true then !inV (.str z) [.str "gap", .str "glass"] else inV (.str z) [.str "gap", .str "glass"]) = (decide (z = "gap") || decide (z = "glass")) := in_words z
              cases hin : (decide (z = "gap") || decide (z = "glass")) with
              | false =>
                rw [hin] at q
                exact iteF' (ein.trans hin) (q _ t3)
              | true =>
                rw [hin, Bool.true_and] at q
                refine iteT' (ein.trans hin) ?_
                refine ⟨_, rfl, a, _, rfl, .inr (ha.keep t3), rfl, ?_⟩
                have el2 : decide (V.int (((V.str z :: x1 :: xr).length : Nat) : Int) = V.int 2) = dr.isEmpty := by
                  rw [decI]
                  have := hr'.len
                  cases dr with
                  | nil =>
                    have : xr = [] := List.eq_nil_of_length_eq_zero (by simpa using this)
                    subst this; rfl
                  | cons d2 dr2 =>
                    simp only [List.length_cons] at this ⊢
                    exact decide_eq_false (by omega)
                show Q (.bl (decide (V.int (((V.str z :: x1 :: xr).length : Nat) : Int) = V.int 2))) _
                rw [el2]
                exact q _ t3
theorem x_look_at (T : Txt K mg ad) : CalB P w K mg base true 4 "look_at" ["bench"] (spLookN K ad.NoBench) := by
  have C_is_piece := x_is_piece (P := P) (w := w) (base := base) T
  have M_NoBench := k_NoBench (P := P) (w := w) (base := base) T
  refine T.t_look_at.calB sc_look_at (fun _ _ _ _ _ _ => by1 fun _ => rfl) (fun vs H Q E h => ?_) (fun f cdv A outer s H vs Q E hr h => ?_)
  · obtain ⟨_, _, _, rfl, _⟩ := h; rfl
  obtain ⟨v, d, o0, rfl, hv, rb, q⟩ := h
  refine ⟨_, (pss_cons (ps_if (PW.pt (pw_or (pt_not (pt_val (pe_callB call_isiD rfl T.isinstance bt_isinstance (pa_name (pv 0) (pa_name (pe_bltn (v := .ty "list") rfl T.list bt_list rfl) pa_nil))))) (pw_or1 (pt_cmpR op_gt (pe_callB call_len_seq rfl T.len bt_len (pa_name (pv 0) pa_nil)) (pe_glob (v := .int 60) rfl T.ex.m_MOST_PIECES ⟨_, rfl⟩) (nomark _))))) (pss_one (ps_raiseI bodyB rfl M_NoBench (hr.mono (by decide)) (pa_const pe_non pa_nil))) pss_nil) (pss_one (ps_for PassesOwn.leaving rfl (pi_enum rfl T.enumerate (pa_name (pv 0) pa_nil)) (pg_tup (n := 2) rfl (pgs_cons (pg_name (i := 1) sc_look_at.nd rfl (by first | exact Or.inl rfl | exact Or.inr rfl)) (pgs_cons (pg_name (i := 2) sc_look_at.nd rfl (by first | exact Or.inl rfl | exact Or.inr rfl)) pgs_nil))) (pss_one (ps_if (pt_not (pt_val (pe_cB C_is_piece (hr.mono (by decide)) pass01 (pa_name (pv 2) pa_nil)))) (pss_one (ps_raiseI bodyB rfl M_NoBench (hr.mono (by decide)) (pa_name (pv 1) pa_nil))) pss_nil))))), ?_⟩
  refine ⟨_, rfl, _, _, _, _, rfl, hv, isLst_b _, _, rfl, ?_⟩
  rcases rb with ⟨no | ⟨ds, rfl, hl⟩, rfl⟩ | ⟨ds, i0, rfl, bad, rfl⟩
  · rw [no]
    exact iteT (iteT ⟨_, rfl, fun dx hn => q _ dx (same_new hn _) upd_same⟩)
  · obtain ⟨a, xs, rfl, ha, hxs⟩ := DV.lst_of hv
    have hlen := hxs.len
    refine iteF ?_
    refine ⟨_, rfl, a, _, rfl, .inl ha, _, _, rfl, rfl, _, rfl, iteT' (decide_eq_true (by omega)) ?_⟩
    exact ⟨_, rfl, fun dx hn => q _ dx (same_new hn _) upd_same⟩
  obtain ⟨a, xs, rfl, ha, hxs⟩ := DV.lst_of hv
  have hlen := hxs.len
  obtain ⟨short, sm, before, db, hdb, nb⟩ := bad
  have hi0 := lt_of_get hdb
  refine iteF ?_
  refine ⟨_, rfl, a, _, rfl, .inl ha, _, _, rfl, rfl, _, rfl, iteF' (decide_eq_false (by omega)) ?_⟩
  refine ⟨_, rfl, a, rfl, ⟨_, ha⟩, ?_⟩
  refine for_enum (K := K) (a := a) (xs := xs) (fun i σ H' => ∃ c1 c2, σ = [some (.ref a), c1, c2] ∧ Same H H' ∧ i ≤ i0) ⟨_, _, rfl, Same.refl _, Nat.zero_le _⟩ ?_ ?_ ?_
  · rintro i σ H' hi ⟨c1, c2, rfl, s1, _⟩
    exact ha.keep s1
  · rintro i x σ H' p hi ⟨c1, c2, rfl, s1, le⟩ hp
    obtain ⟨d, hd, hx⟩ := hxs.get hi
    have s2 := s1.trans (same_new hp (.tup [.int i, x]))
    refine ⟨p, _, rfl, SqT.of upd_same, rfl, _, _, rfl, _, _, rfl, rfl, ?_⟩
    refine ⟨_, rfl, _, _, rfl, hx.keep s2, sm _ (List.mem_of_getElem? hd), fun H3 s3 => ⟨_, rfl, ?_⟩⟩
    rcases Nat.lt_or_eq_of_le le with lt | rfl
    · rw [before i lt d hd]
      exact iteF ⟨_, _, rfl, s2.trans s3, lt⟩
    · rw [hdb] at hd
      cases hd
      rw [nb]
      exact iteT ⟨_, rfl, _, rfl, fun dx hn => q _ dx ((s2.trans s3).trans (same_new hn _)) upd_same⟩
  · rintro σ H' ⟨c1, c2, rfl, s1, le⟩
    omega
theorem x_table_of (T : Txt K mg ad) : CalB P w K mg base true 5 "table_of" ["bench"] (spLookN K ad.NoBench) := by
  have C_look_at := x_look_at (P := P) (w := w) (base := base) T
  refine T.t_table_of.calB sc_table_of (fun _ _ _ _ _ _ => by1 fun _ => rfl) (fun vs H Q E h => ?_) (fun f cdv A outer s H vs Q E hr h => ?_)
  · obtain ⟨_, _, _, rfl, _⟩ := h; rfl
  obtain ⟨v, d, o0, rfl, hv, bad, q⟩ := h
  exact ⟨_, (pss_cons (ps_expr (pe_cB C_look_at (hr.mono (by decide)) (passes1 bodyB) (pa_name (pv 0) pa_nil))) pss_never), ⟨_, rfl, v, d, o0, rfl, hv, bad, q⟩⟩
end
end K50
namespace K50
open PySem L2 Lib Fr Op
seal PE PT PW PA PS PSs PG PGs PI PO PIfs
local macro_rules | `(tactic| walk_at "Zs") => `(tactic| first | with_reducible assumption | with_reducible exact Same.refl _ | exact zs1 (by with_reducible assumption) (by walk_at "Zs") | exact zs2 (by with_reducible assumption) (by walk_at "Zs"))
local macro_rules | `(tactic| walk_at "Zd") => `(tactic| first | with_reducible assumption | with_reducible exact DV.int _ | with_reducible exact DV.str _ | with_reducible exact DV.bl _ | with_reducible exact DV.non | exact zd1 (by first | with_reducible assumption | assumption) (by walk_at "Zs") | with_reducible exact dN (by assumption) _ | with_reducible exact dO (by assumption) _ | exact zd2 (by with_reducible assumption) (by walk_at "Zs") (by walk_at "Zd") (by walk_at "Zd") | exact zd3 (by with_reducible assumption) (by walk_at "Zs") (by walk_at "Zd") (by walk_at "Zd") (by walk_at "Zd") | exact zd4 (by with_reducible assumption) (by walk_at "Zs") (by walk_at "Zd") (by walk_at "Zd") (by walk_at "Zd") (by walk_at "Zd"))
local macro_rules | `(tactic| walk_at "Zt") => `(tactic| first | assumption | exact zt1 (by assumption) (by walk_at "Zs") | exact zt2 (by walk_at "Zs"))
local macro_rules | `(tactic| walk_at "Zl") => `(tactic| first | assumption | exact zl1 (by assumption) (by walk_at "Zs") | exact zl2 (by walk_at "Zs"))
local macro_rules | `(tactic| walk_at "Zv") => `(tactic| first | exact DVs.nil | exact DVs.cons (by walk_at "Zd") (by walk_at "Zv"))
local macro_rules | `(tactic| walk_at "Zb") => `(tactic| first | with_reducible assumption | exact bd_zero 1 (by decide) | exact bd_one 1 (by decide) | with_reducible exact Bd.mul (by walk_at "Zb") (by walk_at "Zb") | with_reducible exact Bd.add (by walk_at "Zb") (by walk_at "Zb") | with_reducible exact Bd.sub (by walk_at "Zb") (by walk_at "Zb") | with_reducible exact Tb.a (by with_reducible assumption) | with_reducible exact Tb.b (by with_reducible assumption) | with_reducible exact Tb.c (by with_reducible assumption) | with_reducible exact Tb.d (by with_reducible assumption) | with_reducible exact Rb.y (by with_reducible assumption) | with_reducible exact Rb.u (by with_reducible assumption))
local macro_rules | `(tactic| walk_at "Zm") => `(tactic| first | with_reducible assumption | with_reducible exact Sm.zero | with_reducible exact Sm.one | exact Bd.sm (by walk_at "Zb") (by first | decide | omega))
local macro_rules | `(tactic| walk_at "Zr") => `(tactic| first | exact ⟨_, _, rfl, by walk_at "Zm", by walk_at "Zm", rfl⟩ | exact ⟨_, _, rfl, by walk_at "Zm", by walk_at "Zm", by assumption, rfl⟩)
local macro_rules | `(tactic| walk_at "Zc") => `(tactic| (refine ⟨_, _, by walk_at "Zv", by walk_at "Zr", fun v H' s hv => ?_⟩; (first | (obtain rfl := DV.bl_of hv) | (have := (show DV _ _ _ (frD _) from hv); clear this) | (obtain ⟨a, x1, x2, x3, x4, rfl, ha, h1, h2, h3, h4⟩ := DV.t4 hv) | (obtain ⟨a, x1, x2, x3, rfl, ha, h1, h2, h3⟩ := DV.t3 hv) | (obtain ⟨a, x1, x2, rfl, ha, h1, h2⟩ := DV.t2 hv) | skip)))
local macro_rules | `(tactic| walk_at "Zp") => `(tactic| first | refine ⟨by (show 2 ≤ sizeLine; decide), fun p hp => ?_⟩ | refine ⟨by (show 3 ≤ sizeLine; decide), fun p hp => ?_⟩ | refine ⟨by (show 4 ≤ sizeLine; decide), fun p hp => ?_⟩)
local macro_rules | `(tactic| walk_at "Zn") => `(tactic| first | refine ⟨_, rfl, ?_⟩ | refine ⟨_, _, _, _, rfl, rfl, by walk_at "Zt", by rfl, ?_⟩ | refine ⟨_, _, rfl, rfl, ?_⟩)
local macro_rules | `(tactic| walk_at "Z1") => `(tactic| first | walk_at "Zn" | walk_at "Zp" | walk_at "Zc" | refine iteF ?_ | refine iteT ?_)
local macro_rules | `(tactic| walk_at "Z") => `(tactic| repeat walk_at "Z1")
section
variable {P : Program} {w : World} {K : PySem.W.Frag} {mg : Str → Option Value} {base : Heap} {ad : Adr} {c : Bool}
theorem c_sharp_places (T : Txt K mg ad) : CalB P w K mg base true 8 "sharp_places" ["bench", "lamp", "slants", "most"] (PR K RSharpU) := by
  have C_table_of := c_table_of (P := P) (w := w) (base := base) T
  have C_spread_of := c_spread_of (P := P) (w := w) (base := base) T
  have C_less_by := c_less_by (P := P) (w := w) (base := base) T
  have C_product_of := c_product_of (P := P) (w := w) (base := base) T
  have C_blur_of := c_blur_of (P := P) (w := w) (base := base) T
  have C_is_less := c_is_less (P := P) (w := w) (base := base) T
  have C_image_of := c_image_of (P := P) (w := w) (base := base) T
  have C_quotient_of := c_quotient_of (P := P) (w := w) (base := base) T
  have C_sum_of := c_sum_of (P := P) (w := w) (base := base) T
  refine T.t_sharp_places.calN sc_sharp_places (fun _ _ _ _ _ _ => by4 fun _ _ _ _ => rfl) (fun vs H Q E h => ?_) (fun f cdv A outer s H vs Q E hr h => ?_)
  · obtain ⟨_, _, dv, ⟨_, _, _, rfl, _⟩, _⟩ := h; exact dv.len
  obtain ⟨_, _, dv, ⟨ps, x, m, rfl, g, h8, lp, m0, bm, rfl⟩, k⟩ := h
  obtain ⟨x1, x2, x3, x4, rfl, h1, h2, h3, h4⟩ := dv.four
  obtain ⟨la, l1, l2, rfl, hla, hl1, hl2⟩ := DV.t2 (show DV K H x2 (.tuple [frD x.h, frD x.s]) from h2)
  obtain ⟨sa, t1, t2, rfl, hsa, ht1, ht2⟩ := DV.t2 (show DV K H x3 (.tuple [frD x.f, frD x.l]) from h3)
  have tb := tab154 g h8
  obtain ⟨sp1, sp2⟩ := spr_bdU tb lp
  refine ⟨_, (pss_cons (ps_set (i := 4) sc_sharp_places.nd rfl (Or.inl rfl) (pe_cB C_table_of (hr.mono (by decide)) pass01 (pa_name (pv 0) pa_nil))) (pss_cons (ps_set (i := 5) sc_sharp_places.nd rfl (Or.inl rfl) (pe_cB C_product_of (hr.mono (by decide)) pass01 (pa_sub (pe_ix ix_tup (pe_cB C_spread_of (hr.mono (by decide)) pass01 (pa_name (pv 4) (pa_sub (pe_ix ix_tup (pv 1) pe_int (fun _ _ => rfl)) pa_nil))) pe_int (fun _ _ => rfl)) (pa_call (pe_cB C_less_by (hr.mono (by decide)) pass01 (pa_sub (pe_ix ix_tup (pv 2) pe_int (fun _ _ => rfl)) (pa_sub (pe_ix ix_tup (pv 2) pe_int (fun _ _ => rfl)) pa_nil))) pa_nil)))) (pss_cons (ps_if (pt_cmpR (op_eqD hr.units) (pv 5) (pe_glob (v := .ref ad.NOUGHT) rfl T.ex.m_NOUGHT rfl) (nomark _)) (pss_one (ps_ret (pe_ifExp (pt_val (pe_cB C_is_less (hr.mono (by decide)) pass01 (pa_name (pv 3) (pa_call (pe_cB C_blur_of (hr.mono (by decide)) pass01 (pa_name (pv 0) (pa_name (pv 1) (pa_name (pv 2) (pa_name (pe_glob (v := .ref ad.NOUGHT) rfl T.ex.m_NOUGHT rfl) pa_nil))))) pa_nil)))) (pe_glob (v := .ref ad.NOWHERE) rfl T.ex.m_NOWHERE rfl) (pe_glob (v := .ref ad.EVERYWHERE) rfl T.ex.m_EVERYWHERE rfl)))) pss_nil) (pss_cons (ps_if (pt_val (pe_cB C_is_less (hr.mono (by decide)) pass01 (pa_name (pv 3) (pa_name (pe_glob (v := .ref ad.NOUGHT) rfl T.ex.m_NOUGHT rfl) pa_nil)))) (pss_one (ps_ret (pe_glob (v := .ref ad.NOWHERE) rfl T.ex.m_NOWHERE rfl))) pss_nil) (pss_cons (ps_set (i := 6) sc_sharp_places.nd rfl (Or.inl rfl) (pe_cB C_image_of (hr.mono (by decide)) pass01 (pa_name (pv 4) (pa_sub (pe_ix ix_tup (pv 1) pe_int (fun _ _ => rfl)) pa_nil)))) (pss_cons (ps_set (i := 7) sc_sharp_places.nd rfl (Or.inl rfl) (pe_cB C_quotient_of (hr.mono (by decide)) pass01 (pa_name (pv 3) (pa_tuple (pe_tup (pa_call (pe_callB call_abs rfl T.abs bt_abs (pa_sub (pe_ix ix_tup (pv 5) pe_int (fun _ _ => rfl)) pa_nil)) (pa_sub (pe_ix ix_tup (pv 5) pe_int (fun _ _ => rfl)) pa_nil))) pa_nil)))) (pss_one (ps_ret (pe_tup (pa_name (pe_glob (v := .str "from") rfl T.ex.m_FROM ⟨_, rfl⟩) (pa_call (pe_cB C_less_by (hr.mono (by decide)) pass01 (pa_name (pv 6) (pa_name (pv 7) pa_nil))) (pa_call (pe_cB C_sum_of (hr.mono (by decide)) pass01 (pa_name (pv 6) (pa_name (pv 7) pa_nil))) pa_nil)))))))))))), ?_⟩
  refine ⟨_, rfl, _, _, by walk_at "Zv", ⟨ps, 18, rfl, g, by omega, rfl⟩, fun v5 H5 s5 hv5 => ?_⟩
  refine ⟨_, rfl, _, rfl, la, _, _, _, rfl, rfl, hla.keep s5, rfl, _, _, by walk_at "Zv", ⟨tabOf ps, x.s, 309, rfl, Tb.mono tb (by decide), lp.s.mono (by decide), by decide, rfl⟩, fun v6 H6 s6 hv6 => ?_⟩
  obtain ⟨ba, y1, y2, rfl, hba, hy1, hy2⟩ := DV.t2 hv6
  refine ⟨ba, _, _, _, rfl, rfl, hba, rfl, ?_⟩
  refine ⟨_, rfl, sa, _, _, _, rfl, rfl, by walk_at "Zt", by rfl, _, rfl, sa, _, _, _, rfl, rfl, by walk_at "Zt", by rfl, _, _, by walk_at "Zv", ⟨_, _, rfl, lp.l.sm (by decide), lp.f.sm (by decide), rfl⟩, fun v7 H7 s7 hv7 => ?_⟩
  refine ⟨_, _, by walk_at "Zv", ⟨_, _, rfl, sp2.sm (by decide), (lp.l.sub lp.f).sm (by decide), rfl⟩, fun v8 H8 s8 hv8 => ?_⟩
  have hv8 : DV K H8 v8 (frD (growing (tabOf ps) x)) := hv8
  have gb := grow_bdU tb lp
  refine ⟨_, rfl, eq_frG hv8 (dN T H8) ⟨_, rfl, ?_⟩⟩
  unfold sharpD at k
  by_cases gz : growing (tabOf ps) x = 0
  · rw [if_pos gz] at k
    refine iteT' (decide_eq_true gz) ?_
    refine ⟨_, rfl, _, rfl, _, rfl, _, rfl, _, _, .cons (show DV K H8 x1 (benchD ps) from by walk_at "Zd") (.cons (show DV K H8 (.ref la) (pairD x.h x.s) from by walk_at "Zd") (.cons (show DV K H8 (.ref sa) (pairD x.f x.l) from by walk_at "Zd") (.cons (dN T H8) .nil))), ⟨ps, x.h, x.s, x.f, x.l, 0, 18, 184, 1, rfl, g, lp.h.mono (by decide), lp.s.mono (by decide), lp.f, lp.l, bd_zero 1 (by decide), by omega, rfl⟩, fun v9 H9 s9 hv9 => ?_⟩
    have hv9 : DV K H9 v9 (frD (blr (tabOf ps) x 0)) := by rw [← blur_blr]; exact hv9
    have bb := blr_bdU tb lp (bd_zero 12 (by decide))
    refine ⟨_, _, .cons (show DV K H9 x4 (frD m) from by walk_at "Zd") (.cons hv9 .nil), ⟨_, _, rfl, bm.sm (by decide), bb.sm (by decide), rfl⟩, fun v10 H10 s10 hv10 => ?_⟩
    obtain rfl := hv10.bl_of
    refine ⟨_, rfl, ?_⟩
    by_cases c : m < blr (tabOf ps) x 0
    · rw [if_pos c] at k
      exact iteT' (decide_eq_true c) (k _ _ (by walk_at "Zs") (.tup (T.ex.s_NOWHERE _) (.cons (.str _) .nil)))
    · rw [if_neg c] at k
      exact iteF' (decide_eq_false c) (k _ _ (by walk_at "Zs") (.tup (T.ex.s_EVERYWHERE _) (.cons (.str _) .nil)))
  · rw [if_neg gz] at k
    refine iteF' (decide_eq_false gz) ?_
    refine ⟨_, rfl, _, _, .cons (show DV K H8 x4 (frD m) from by walk_at "Zd") (.cons (dN T H8) .nil), ⟨_, _, rfl, bm.sm (by decide), Sm.zero, rfl⟩, fun v9 H9 s9 hv9 => ?_⟩
    obtain rfl := hv9.bl_of
    refine ⟨_, rfl, iteF' (decide_eq_false (Rat.not_lt.mpr m0)) ?_⟩
    refine ⟨_, rfl, _, rfl, la, _, _, _, rfl, rfl, by walk_at "Zt", by rfl, _, _, .cons (show DV K H9 v5 (tabD (tabOf ps)) from by walk_at "Zd") (.cons (show DV K H9 l2 (frD x.s) from by walk_at "Zd") .nil), ⟨tabOf ps, x.s, 309, rfl, Tb.mono tb (by decide), det_tab ps, lp.s.mono (by decide), by decide, rfl⟩, fun v10 H10 s10 hv10 => ?_⟩
    have hq : (spread (tabOf ps) x.s).2 ≠ 0 := fun z => gz (by unfold growing; rw [z, Rat.zero_mul])
    have hv10 : DV K H10 v10 (frD (mid (tabOf ps) x.s)) := by
      unfold img at hv10
      rw [if_neg hq] at hv10
      exact hv10
    obtain ⟨ga, rfl, hga⟩ := hv8.fr
    refine ⟨_, rfl, _, rfl, ga, _, _, _, rfl, rfl, by walk_at "Zt", by rfl, _, rfl, _, rfl, ga, _, _, _, rfl, rfl, by walk_at "Zt", by rfl, (by show 2 ≤ sizeLine; decide), fun p11 hp11 => ?_⟩
    have u11 := same_new hp11 (.tup [.int (if (growing (tabOf ps) x).num < 0 then -(growing (tabOf ps) x).num else (growing (tabOf ps) x).num), .int ((growing (tabOf ps) x).den : Int)])
    have d11 : DV K (upd H10 p11 (.tup [.int (if (growing (tabOf ps) x).num < 0 then -(growing (tabOf ps) x).num else (growing (tabOf ps) x).num), .int ((growing (tabOf ps) x).den : Int)])) (.ref p11) (frD (ab (growing (tabOf ps) x))) := by
      rw [frD_ab]
      exact .tup (SqT.of upd_same) (.cons (.int _) (.cons (.int _) .nil))
    generalize upd H10 p11 (.tup [.int (if (growing (tabOf ps) x).num < 0 then -(growing (tabOf ps) x).num else (growing (tabOf ps) x).num), .int ((growing (tabOf ps) x).den : Int)]) = H11 at u11 d11 ⊢
    refine ⟨_, _, .cons (show DV K H11 x4 (frD m) from by walk_at "Zd") (.cons d11 .nil), ⟨_, _, rfl, bm.sm (by decide), (ab_bd gb).sm (by decide), fun z => gz (ab_zero.mp z), rfl⟩, fun v12 H12 s12 hv12 => ?_⟩
    have hv12 : DV K H12 v12 (frD (reach (tabOf ps) x m)) := hv12
    have rbd := reach_bdU tb lp gz bm
    have mb := mid_bdU tb lp gz
    refine ⟨_, rfl, _, rfl, _, _, .cons (show DV K H12 v10 (frD (mid (tabOf ps) x.s)) from by walk_at "Zd") (.cons hv12 .nil), ⟨_, _, rfl, mb.sm (by decide), rbd.sm (by decide), rfl⟩, fun v13 H13 s13 hv13 => ?_⟩
    refine ⟨_, rfl, _, rfl, _, _, .cons (show DV K H13 v10 (frD (mid (tabOf ps) x.s)) from by walk_at "Zd") (.cons (show DV K H13 v12 (frD (reach (tabOf ps) x m)) from by walk_at "Zd") .nil), ⟨_, _, rfl, mb.sm (by decide), rbd.sm (by decide), rfl⟩, fun v14 H14 s14 hv14 => ?_⟩
    refine ⟨(by show 3 ≤ sizeLine; decide), fun p15 hp15 => ?_⟩
    have u15 := same_new hp15 (.tup [.str "from", v13, v14])
    exact k _ _ (by walk_at "Zs") (DV.upd3 hp15 (.str _) (by walk_at "Zd") hv14)
end
end K50
namespace K50
open PySem L2 Lib Fr Op
seal PE PT PW PA PS PSs PG PGs PI PO PIfs
section
variable {P : Program} {w : World} {K : PySem.W.Frag} {mg : Str → Option Value} {base : Heap} {ad : Adr} {c : Bool}
theorem c_places_in_both (T : Txt K mg ad) : CalB P w K mg base true 4 "places_in_both" ["one", "other"] (spBothE ad.EVERYWHERE) := by
  refine T.t_places_in_both.calN sc_places_in_both (fun _ _ _ _ _ _ => by2 fun _ _ => rfl) (fun vs H Q E h => ?_) (fun f cdv A outer s H vs Q E hr h => ?_)
  · obtain ⟨_, rfl, _⟩ := h; rfl
  obtain ⟨v, rfl, q⟩ := h
  refine ⟨_, (pss_cons (ps_if (PW.pt (pw_or (pt_cmpR (op_eqD hr.units) (pv 0) (pe_glob (v := .ref ad.EVERYWHERE) rfl T.ex.m_EVERYWHERE rfl) (nomark _)) (pw_or1 (pt_cmpR (op_eqD hr.units) (pv 1) (pe_glob (v := .ref ad.NOWHERE) rfl T.ex.m_NOWHERE rfl) (nomark _))))) (pss_one (ps_ret (pv 1))) pss_nil) pss_never), ?_⟩
  have dA : DV K H (.ref ad.EVERYWHERE) (.tuple [.str "all"]) := .tup (T.ex.s_EVERYWHERE H) (.cons (.str _) .nil)
  refine ⟨_, rfl, _, _, dA, dA, (by decide +kernel), (by decide +kernel), _, rfl, iteT' (by decide +kernel) (iteT ⟨_, rfl, q⟩)⟩
theorem c_sharp_for_all (T : Txt K mg ad) : CalB P w K mg base true 9 "sharp_for_all" ["bench", "lamps", "first", "last", "most"] (spFA K) := by
  have C_look_at := c_look_at (P := P) (w := w) (base := base) T
  have C_look_at_stretch := c_look_at_stretch (P := P) (w := w) (base := base) T
  have C_slants_of := c_slants_of (P := P) (w := w) (base := base) T
  have C_places_in_both := c_places_in_both (P := P) (w := w) (base := base) T
  have C_sharp_places := c_sharp_places (P := P) (w := w) (base := base) T
  refine T.t_sharp_for_all.calN sc_sharp_for_all (fun _ _ _ _ _ _ => by5 fun _ _ _ _ _ => rfl) (fun vs H Q E h => ?_) (fun f cdv A outer s H vs Q E hr h => ?_)
  · obtain ⟨_, _, _, _, _, _, _, _, _, _, rfl, _⟩ := h; rfl
  obtain ⟨x1, ll, x3, x4, x5, ps, ls, fi, la, m, rfl, h1, h2, h3, h4, h5, g, p8, hz, l1, bf, bg, o, m0, bm, q⟩ := h
  obtain ⟨_, xs, e, hll, hxs⟩ := DV.lst_of h2
  cases e
  have xl : xs.length = ls.length := by have := hxs.len; rw [List.length_map] at this; exact this
  have pl : ps.length * (18 + 1) ≤ 8 * 19 := Nat.mul_le_mul p8 (Nat.le_refl _)
  refine ⟨_, (pss_cons (ps_expr (pe_cB C_look_at (hr.mono (by decide)) pass01 (pa_name (pv 0) pa_nil))) (pss_cons (ps_expr (pe_cB C_look_at_stretch (hr.mono (by decide)) pass01 (pa_name (pv 2) (pa_name (pv 3) pa_nil)))) (pss_cons (ps_set (i := 5) sc_sharp_for_all.nd rfl (Or.inl rfl) (pe_glob (v := .ref ad.EVERYWHERE) rfl T.ex.m_EVERYWHERE rfl)) (pss_cons (ps_for PassesOwn.never rfl (pi_list (pv 1)) (pg_name (i := 6) sc_sharp_for_all.nd rfl (by first | exact Or.inl rfl | exact Or.inr rfl)) (pss_cons (ps_set (i := 7) sc_sharp_for_all.nd rfl (Or.inl rfl) (pe_cB C_slants_of (hr.mono (by decide)) pass01 (pa_name (pv 0) (pa_name (pv 6) (pa_name (pv 2) (pa_name (pv 3) pa_nil)))))) (pss_one (ps_if (pt_cmpR op_notN (pv 7) pe_non (nomark _)) (pss_one (ps_set (i := 5) sc_sharp_for_all.nd rfl (Or.inl rfl) (pe_cB C_places_in_both (hr.mono (by decide)) pass01 (pa_name (pv 5) (pa_call (pe_cB C_sharp_places (hr.mono (by decide)) pass01 (pa_name (pv 0) (pa_name (pv 6) (pa_name (pv 7) (pa_name (pv 4) pa_nil))))) pa_nil))))) pss_nil)))) (pss_one (ps_ret (pv 5))))))), ?_⟩
  refine ⟨_, rfl, x1, ps, 18, rfl, h1, g, by decide, fun H1 s1 => ?_⟩
  refine ⟨_, rfl, _, rfl, _, _, .cons (h3.keep s1) (.cons (h4.keep s1) .nil), ⟨_, _, rfl, bf.sm (by decide), bg.sm (by decide), o, rfl⟩, fun v2 H2 s2 _ => ?_⟩
  have t2 := s1.trans s2
  refine ⟨_, rfl, ll, rfl, ⟨_, hll.keep t2⟩, ?_⟩
  refine for_list (K := K) (a := ll) (xs := xs) (fun i σ H' => ∃ (pl : V) (c6 c7 : Option V), σ = [some x1, some (.ref ll), some x3, some x4, some x5, some pl, c6, c7] ∧ Same H H' ∧ (i = 0 → pl = .ref ad.EVERYWHERE)) ⟨_, _, _, rfl, t2, fun _ => rfl⟩ ?_ ?_ ?_
  · rintro i σ H' hi ⟨pl, c6, c7, rfl, s', _⟩
    exact hll.keep s'
  · rintro i x σ H' hi ⟨pl, c6, c7, rfl, s', hpl⟩
    obtain ⟨d, hd, hx⟩ := hxs.get hi
    have hi0 : i = 0 := by have := lt_of_get hi; omega
    obtain rfl := hpl hi0
    obtain ⟨z, hzi, rfl⟩ : ∃ z, ls[i]? = some z ∧ d = prD z := by
      rw [List.getElem?_map] at hd
      cases e : ls[i]? with
      | none => rw [e] at hd; cases hd
      | some z => rw [e] at hd; cases hd; exact ⟨z, rfl, rfl⟩
    obtain ⟨zb1, zb2⟩ := hz z (List.mem_of_getElem? hzi)
    refine ⟨_, rfl, _, rfl, _, rfl, _, rfl, _, _, .cons (h1.keep s') (.cons (hx.keep s') (.cons (h3.keep s') (.cons (h4.keep s') .nil))), ⟨ps, z.1, z.2, fi, la, 18, 12, 1000, rfl, g, zb1, zb2, bf.mono (by decide), bg.mono (by decide), o, by omega, by decide, rfl⟩, fun v3 H3 s3 hv3 => ?_⟩
    have t3 := s'.trans s3
    cases ho : slOf (lims ps) z.1 z.2 fi la with
    | none =>
      rw [ho] at hv3
      obtain rfl := DV.non_of hv3
      exact ⟨_, rfl, rfl, _, rfl, iteF' (by decide) ⟨_, _, _, rfl, t3, fun e => absurd e (by omega)⟩⟩
    | some fg =>
      obtain ⟨f', g'⟩ := fg
      have lp := lpu_of g p8 bf bg o zb1 zb2 ho
      rw [ho] at hv3
      obtain ⟨ta, z1, z2, rfl, hta, hz1, hz2⟩ := DV.t2 (show DV K H3 v3 (.tuple [frD f', frD g']) from hv3)
      refine ⟨_, rfl, rfl, _, rfl, iteT' (by simp) ?_⟩
      refine ⟨_, rfl, _, rfl, _, rfl, _, rfl, _, rfl, _, _, .cons (h1.keep t3) (.cons (hx.keep t3) (.cons hv3 (.cons (h5.keep t3) .nil))), ⟨ps, ⟨z.1, z.2, f', g'⟩, m, rfl, g, p8, lp, m0, bm.mono (by decide), rfl⟩, fun v4 H4 s4 hv4 => ?_⟩
      exact ⟨v4, rfl, _, _, _, rfl, t3.trans s4, fun e => absurd e (by omega)⟩
  · rintro σ H' ⟨pl, c6, c7, rfl, s', hpl⟩
    exact ⟨_, rfl, q _ _ s'⟩
theorem x_is_stretch (T : Txt K mg ad) : CalB P w K mg base true 3 "is_stretch" ["first", "last"] (spStrX K) := by
  have C_is_less := c_is_less (P := P) (w := w) (base := base) T
  have C_is_ratio := c_is_ratio_any (P := P) (w := w) (base := base) T
  refine T.t_is_stretch.calN sc_is_stretch (fun _ _ _ _ _ _ => by2 fun _ _ => rfl) (fun vs H Q E h => ?_) (fun f cdv A outer s H vs Q E hr h => ?_)
  · obtain ⟨_, _, _, _, _, rfl, _⟩ := h; rfl
  obtain ⟨x, y, d, e, b, rfl, hx, hy, sb, q⟩ := h
  refine ⟨_, (pss_one (ps_ret (pe_and (pe_cB C_is_ratio (hr.mono (by decide)) pass01 (pa_name (pv 0) pa_nil)) (pe_and (pe_cB C_is_ratio (hr.mono (by decide)) pass01 (pa_name (pv 1) pa_nil)) (pe_one (pe_not (pe_cB C_is_less (hr.mono (by decide)) pass01 (pa_name (pv 1) (pa_name (pv 0) pa_nil))))))))), ?_⟩
  refine ⟨_, rfl, x, d, rfl, hx, _, rfl, ?_⟩
  cases sb with
  | @yes p q' sp sq h =>
    rw [rat_fr]
    refine iteT ?_
    refine ⟨_, rfl, y, _, rfl, hy, _, rfl, ?_⟩
    rw [rat_fr]
    refine iteT ?_
    refine ⟨_, rfl, _, rfl, _, _, .cons hy (.cons hx .nil), ⟨_, _, rfl, sq, sp, rfl⟩, fun v1 H1 s1 hv1 => ?_⟩
    obtain rfl := hv1.bl_of
    rw [decide_eq_false (Rat.not_lt.mpr h)]
    exact ⟨_, rfl, q _ s1⟩
  | @turned p q' sp sq h =>
    rw [rat_fr]
    refine iteT ?_
    refine ⟨_, rfl, y, _, rfl, hy, _, rfl, ?_⟩
    rw [rat_fr]
    refine iteT ?_
    refine ⟨_, rfl, _, rfl, _, _, .cons hy (.cons hx .nil), ⟨_, _, rfl, sq, sp, rfl⟩, fun v1 H1 s1 hv1 => ?_⟩
    obtain rfl := hv1.bl_of
    rw [decide_eq_true h]
    exact ⟨_, rfl, q _ s1⟩
  | one h =>
    rw [h]
    exact iteF (q _ (Same.refl _))
  | two h =>
    rw [rat_fr]
    refine iteT ?_
    refine ⟨_, rfl, y, _, rfl, hy, _, rfl, ?_⟩
    rw [h]
    exact iteF (q _ (Same.refl _))
theorem x_look_at_stretch (T : Txt K mg ad) : CalB P w K mg base true 4 "look_at_stretch" ["first", "last"] (spStrN K ad.NoBox) := by
  have C_is_stretch := x_is_stretch (P := P) (w := w) (base := base) T
  refine T.t_look_at_stretch.calB sc_look_at_stretch (fun _ _ _ _ _ _ => by2 fun _ _ => rfl) (fun vs H Q E h => ?_) (fun f cdv A outer s H vs Q E hr h => ?_)
  · obtain ⟨_, _, _, _, rfl, _⟩ := h; rfl
  obtain ⟨x, y, d, e, rfl, hx, hy, bad, q⟩ := h
  refine ⟨_, (pss_one (ps_if (pt_not (pt_val (pe_cB C_is_stretch (hr.mono (by decide)) pass01 (pa_name (pv 0) (pa_name (pv 1) pa_nil))))) (pss_one (ps_raise bodyB rfl T.ex.c_NoBox (pa_const pe_str pa_nil))) pss_nil)), ?_⟩
  exact ⟨_, rfl, _, rfl, x, y, d, e, _, rfl, hx, hy, bad, fun H1 s1 => ⟨_, rfl, iteT ⟨(by show 1 ≤ sizeLine; decide), q _ s1⟩⟩⟩
theorem x_limits_of (T : Txt K mg ad) : CalB P w K mg base true 5 "limits_of" ["bench"] (spLookN K ad.NoBench) := by
  have C_look_at := x_look_at (P := P) (w := w) (base := base) T
  refine T.t_limits_of.calB sc_limits_of (fun _ _ _ _ _ _ => by1 fun _ => rfl) (fun vs H Q E h => ?_) (fun f cdv A outer s H vs Q E hr h => ?_)
  · obtain ⟨_, _, _, rfl, _⟩ := h; rfl
  obtain ⟨v, d, o0, rfl, hv, bad, q⟩ := h
  exact ⟨_, (pss_cons (ps_expr (pe_cB C_look_at (hr.mono (by decide)) (passes1 bodyB) (pa_name (pv 0) pa_nil))) pss_never), ⟨_, rfl, v, d, o0, rfl, hv, bad, q⟩⟩
theorem x_slants_of (T : Txt K mg ad) : CalB P w K mg base true 6 "slants_of" ["bench", "lamp", "first", "last"] (spSl50 K ad.NoBench ad.NoBox) := by
  refine T.t_slants_of.calB sc_slants_of (fun _ _ _ _ _ _ => by4 fun _ _ _ _ => rfl) (fun vs H Q E h => ?_) (fun f cdv A outer s H vs Q E hr h => ?_)
  · obtain ⟨_, _, _, _, rfl, _⟩ := h; rfl
  obtain ⟨v, l, x, y, rfl, h⟩ := h
  rcases h with ⟨d, o, hv, bad, q⟩ | ⟨ps, d, e, hv, hx, hy, g, h8, bad, q⟩
  · have C_limits_of := x_limits_of (P := P) (w := w) (base := base) T
    exact ⟨_, (pss_cons (ps_set (i := 4) sc_slants_of.nd rfl (Or.inl rfl) (pe_cB C_limits_of (hr.mono (by decide)) (passes1 bodyB) (pa_name (pv 0) pa_nil))) pss_never), ⟨_, rfl, v, d, o, rfl, hv, bad, q⟩⟩
  · have C_limits_of := c_limits_of (P := P) (w := w) (base := base) T
    have C_look_at_stretch := x_look_at_stretch (P := P) (w := w) (base := base) T
    have pl : ps.length * (18 + 1) ≤ 8 * 19 := Nat.mul_le_mul h8 (Nat.le_refl _)
    refine ⟨_, (pss_cons (ps_set (i := 4) sc_slants_of.nd rfl (Or.inl rfl) (pe_cB C_limits_of (hr.mono (by decide)) pass01 (pa_name (pv 0) pa_nil))) (pss_cons (ps_expr (pe_cB C_look_at_stretch (hr.mono (by decide)) (passes1 bodyB) (pa_name (pv 2) (pa_name (pv 3) pa_nil)))) pss_never)), ?_⟩
    refine ⟨_, rfl, v, ps, 18, rfl, hv, g, by omega, fun l rs H1 s1 nl hl hrs => ?_⟩
    exact ⟨_, rfl, _, rfl, x, y, d, e, rfl, hx.keep s1, hy.keep s1, bad, fun H2 s2 => q _ (s1.trans s2)⟩
theorem x_sharp_for_all (T : Txt K mg ad) : CalB P w K mg base true 9 "sharp_for_all" ["bench", "lamps", "first", "last", "most"] (spFA50 K ad.NoBench ad.NoBox) := by
  refine T.t_sharp_for_all.calB sc_sharp_for_all (fun _ _ _ _ _ _ => by5 fun _ _ _ _ _ => rfl) (fun vs H Q E h => ?_) (fun f cdv A outer s H vs Q E hr h => ?_)
  · obtain ⟨_, _, _, _, _, rfl, _⟩ := h; rfl
  obtain ⟨v, l, x, y, m, rfl, h⟩ := h
  rcases h with ⟨d, o, hv, bad, q⟩ | ⟨ps, d, e, hv, hx, hy, g, h8, bad, q⟩
  · have C_look_at := x_look_at (P := P) (w := w) (base := base) T
    exact ⟨_, (pss_cons (ps_expr (pe_cB C_look_at (hr.mono (by decide)) (passes1 bodyB) (pa_name (pv 0) pa_nil))) pss_never), ⟨_, rfl, v, d, o, rfl, hv, bad, q⟩⟩
  · have C_look_at := c_look_at (P := P) (w := w) (base := base) T
    have C_look_at_stretch := x_look_at_stretch (P := P) (w := w) (base := base) T
    refine ⟨_, (pss_cons (ps_expr (pe_cB C_look_at (hr.mono (by decide)) pass01 (pa_name (pv 0) pa_nil))) (pss_cons (ps_expr (pe_cB C_look_at_stretch (hr.mono (by decide)) (passes1 bodyB) (pa_name (pv 2) (pa_name (pv 3) pa_nil)))) pss_never)), ?_⟩
    refine ⟨_, rfl, v, ps, 18, rfl, hv, g, by decide, fun H1 s1 => ?_⟩
    exact ⟨_, rfl, _, rfl, x, y, d, e, rfl, hx.keep s1, hy.keep s1, bad, fun H2 s2 => q _ (s1.trans s2)⟩
theorem x_spots_of (T : Txt K mg ad) : CalB P w K mg base true 6 "spots_of" ["bench", "lamp", "slants", "t"] (spBadB4 K ad.NoBench) := by
  have C_table_of := x_table_of (P := P) (w := w) (base := base) T
  refine T.t_spots_of.calB sc_spots_of (fun _ _ _ _ _ _ => by4 fun _ _ _ _ => rfl) (fun vs H Q E h => ?_) (fun f cdv A outer s H vs Q E hr h => ?_)
  · obtain ⟨_, _, _, _, _, _, rfl, _⟩ := h; rfl
  obtain ⟨v, y, m, n, d, o0, rfl, hv, bad, q⟩ := h
  exact ⟨_, (pss_cons (ps_set (i := 4) sc_spots_of.nd rfl (Or.inl rfl) (pe_cB C_table_of (hr.mono (by decide)) (passes1 bodyB) (pa_name (pv 0) pa_nil))) pss_never), ⟨_, rfl, v, d, o0, rfl, hv, bad, q⟩⟩
theorem x_blur_of (T : Txt K mg ad) : CalB P w K mg base true 7 "blur_of" ["bench", "lamp", "slants", "t"] (spBadB4 K ad.NoBench) := by
  have C_spots_of := x_spots_of (P := P) (w := w) (base := base) T
  refine T.t_blur_of.calB sc_blur_of (fun _ _ _ _ _ _ => by4 fun _ _ _ _ => rfl) (fun vs H Q E h => ?_) (fun f cdv A outer s H vs Q E hr h => ?_)
  · obtain ⟨_, _, _, _, _, _, rfl, _⟩ := h; rfl
  obtain ⟨v, y, m, n, d, o0, rfl, hv, bad, q⟩ := h
  exact ⟨_, (pss_cons (ps_set (i := 4) sc_blur_of.nd rfl (Or.inl rfl) (pe_cB C_spots_of (hr.mono (by decide)) (passes1 bodyB) (pa_name (pv 0) (pa_name (pv 1) (pa_name (pv 2) (pa_name (pv 3) pa_nil)))))) pss_never), ⟨_, rfl, _, rfl, _, rfl, _, rfl, v, y, m, n, d, o0, rfl, hv, bad, q⟩⟩
theorem x_sharp_places (T : Txt K mg ad) : CalB P w K mg base true 8 "sharp_places" ["bench", "lamp", "slants", "most"] (spBadB4 K ad.NoBench) := by
  have C_table_of := x_table_of (P := P) (w := w) (base := base) T
  refine T.t_sharp_places.calB sc_sharp_places (fun _ _ _ _ _ _ => by4 fun _ _ _ _ => rfl) (fun vs H Q E h => ?_) (fun f cdv A outer s H vs Q E hr h => ?_)
  · obtain ⟨_, _, _, _, _, _, rfl, _⟩ := h; rfl
  obtain ⟨v, y, m, n, d, o0, rfl, hv, bad, q⟩ := h
  exact ⟨_, (pss_cons (ps_set (i := 4) sc_sharp_places.nd rfl (Or.inl rfl) (pe_cB C_table_of (hr.mono (by decide)) (passes1 bodyB) (pa_name (pv 0) pa_nil))) pss_never), ⟨_, rfl, v, d, o0, rfl, hv, bad, q⟩⟩
end
end K50
namespace K50
open PySem L2 Lib Fr Op
seal PE PT PW PA PS PSs PG PGs PI PO PIfs
section
variable {P : Program} {w : World} {K : PySem.W.Frag} {mg : Str → Option Value} {base : Heap} {ad : Adr} {c : Bool}
def kw50 : List Str := ["bench", "box", "value", "number", "text", "table", "stock", "wish", "row", "unknown"]
def kb50 (b : Bool) : List Bool := [b, !b, true, false, false, false, false, false, false, false]
def kz50 (b : Bool) : Str := if b = true then "bench" else "box"
def kf50 (b : Bool) (i : Nat) : List V := (((kw50.zip (kb50 b)).take i).filter (·.2)).map (fun p => V.str p.1)
theorem kf_end (b : Bool) : kf50 b 10 = [.str (kz50 b), .str "value"] := by cases b <;> rfl
theorem kf_next {b t : Bool} {z : Str} {i : Nat} (h1 : kw50[i]? = some z) (h2 : (kb50 b)[i]? = some t) : kf50 b (i + 1) = kf50 b i ++ (if t = true then [.str z] else []) := by
  unfold kf50
  have e : (kw50.zip (kb50 b))[i]? = some (z, t) := by rw [List.getElem?_zip_eq_some]; exact ⟨h1, h2⟩
  rw [List.take_add_one, e, List.filter_append, List.map_append]
  cases t <;> rfl
theorem kf_len (b : Bool) (i : Nat) : (kf50 b i).length ≤ 10 := by
  unfold kf50
  rw [List.length_map]
  refine Nat.le_trans (List.length_filter_le _ _) ?_
  rw [List.length_take]
  exact Nat.le_trans (Nat.min_le_right _ _) (by rw [List.length_zip]; exact Nat.le_trans (Nat.min_le_left _ _) (by decide))
theorem c__law_names (T : Txt K mg ad) : CalH P w K mg base 2 "_law_names" ["_law_e"] (spNames ad.NoBench ad.NoBox) := by
  refine T.t__law_names.calH sc__law_names (fun _ _ _ _ _ _ => by1 fun _ => rfl) (fun ex vs H Q E h => ?_) (fun f cdv ex A outer s H vs Q E hh hr h => ?_)
  · obtain ⟨_, _, rfl, _⟩ := h; rfl
  obtain ⟨dx, z, rfl, hz, q⟩ := h
  have X := T.ex
  obtain ⟨Ce, b, ek, hx, rfl, k1, k2, k3, k4, k5, k6, k7, k8, k9, k10⟩ : ∃ (Ce : Addr) (b : Bool), ExcK K Ce ∧ H ex = some (xH ex Ce dx) ∧ z = kz50 b ∧ PySem.W.kitOne K (.ref Ce) (.ref ad.NoBench) = some b ∧ PySem.W.kitOne K (.ref Ce) (.ref ad.NoBox) = some (!b) ∧ PySem.W.kitOne K (.ref Ce) (.type "ValueError") = some true ∧ PySem.W.kitOne K (.ref Ce) (.ref ad.NoNumber) = some false ∧ PySem.W.kitOne K (.ref Ce) (.ref ad.NoText) = some false ∧ PySem.W.kitOne K (.ref Ce) (.ref ad.NoTable) = some false ∧ PySem.W.kitOne K (.ref Ce) (.ref ad.NoStock) = some false ∧ PySem.W.kitOne K (.ref Ce) (.ref ad.NoWish) = some false ∧ PySem.W.kitOne K (.ref Ce) (.ref ad.NoRow) = some false ∧ PySem.W.kitOne K (.ref Ce) (.ref ad.Unknown) = some false := by
    rcases hz with ⟨hx, rfl⟩ | ⟨hx, rfl⟩
    · exact ⟨_, true, X.e_NoBench, hx, rfl, X.k_NoBench_NoBench, X.k_NoBench_NoBox, X.k_NoBench_ValueError, X.k_NoBench_NoNumber, X.k_NoBench_NoText, X.k_NoBench_NoTable, X.k_NoBench_NoStock, X.k_NoBench_NoWish, X.k_NoBench_NoRow, X.k_NoBench_Unknown⟩
    · exact ⟨_, false, X.e_NoBox, hx, rfl, X.k_NoBox_NoBench, X.k_NoBox_NoBox, X.k_NoBox_ValueError, X.k_NoBox_NoNumber, X.k_NoBox_NoText, X.k_NoBox_NoTable, X.k_NoBox_NoStock, X.k_NoBox_NoWish, X.k_NoBox_NoRow, X.k_NoBox_Unknown⟩
  clear hz
  refine ⟨_, (pss_cons (ps_set (i := 1) sc__law_names.nd rfl (Or.inl rfl) (pe_lst (pa_call (pe_callB (call_isiH1K (K := K)) rfl T.isinstance bt_isinstance (pa_name (pv 0) (pa_name (pe_glob (v := .ref ad.NoBench) rfl T.ex.m_NoBench rfl) pa_nil))) (pa_call (pe_callB (call_isiH1K (K := K)) rfl T.isinstance bt_isinstance (pa_name (pv 0) (pa_name (pe_glob (v := .ref ad.NoBox) rfl T.ex.m_NoBox rfl) pa_nil))) (pa_call (pe_callB (call_isiH1K (K := K)) rfl T.isinstance bt_isinstance (pa_name (pv 0) (pa_name (pe_bltn (v := .ty "ValueError") rfl T.ValueError bt_ValueError rfl) pa_nil))) (pa_call (pe_callB (call_isiH1K (K := K)) rfl T.isinstance bt_isinstance (pa_name (pv 0) (pa_name (pe_glob (v := .ref ad.NoNumber) rfl T.ex.m_NoNumber rfl) pa_nil))) pa_nil)))))) (pss_cons (ps_set (i := 1) sc__law_names.nd rfl (Or.inl rfl) (pe_op op_cat (pv 1) (pe_lst (pa_call (pe_callB (call_isiH1K (K := K)) rfl T.isinstance bt_isinstance (pa_name (pv 0) (pa_name (pe_glob (v := .ref ad.NoText) rfl T.ex.m_NoText rfl) pa_nil))) (pa_call (pe_callB (call_isiH1K (K := K)) rfl T.isinstance bt_isinstance (pa_name (pv 0) (pa_name (pe_glob (v := .ref ad.NoTable) rfl T.ex.m_NoTable rfl) pa_nil))) (pa_call (pe_callB (call_isiH1K (K := K)) rfl T.isinstance bt_isinstance (pa_name (pv 0) (pa_name (pe_glob (v := .ref ad.NoStock) rfl T.ex.m_NoStock rfl) pa_nil))) (pa_call (pe_callB (call_isiH1K (K := K)) rfl T.isinstance bt_isinstance (pa_name (pv 0) (pa_name (pe_glob (v := .ref ad.NoWish) rfl T.ex.m_NoWish rfl) pa_nil))) pa_nil))))))) (pss_cons (ps_set (i := 1) sc__law_names.nd rfl (Or.inl rfl) (pe_op op_cat (pv 1) (pe_lst (pa_call (pe_callB (call_isiH1K (K := K)) rfl T.isinstance bt_isinstance (pa_name (pv 0) (pa_name (pe_glob (v := .ref ad.NoRow) rfl T.ex.m_NoRow rfl) pa_nil))) (pa_call (pe_callB (call_isiH1K (K := K)) rfl T.isinstance bt_isinstance (pa_name (pv 0) (pa_name (pe_glob (v := .ref ad.Unknown) rfl T.ex.m_Unknown rfl) pa_nil))) pa_nil))))) (pss_cons (ps_set (i := 2) sc__law_names.nd rfl (Or.inl rfl) (pe_lst (pa_const pe_str (pa_const pe_str (pa_const pe_str (pa_const pe_str (pa_const pe_str (pa_const pe_str (pa_const pe_str (pa_const pe_str (pa_const pe_str (pa_const pe_str pa_nil)))))))))))) (pss_one (ps_ret (pe_compH ["_law_word", "_law_there"] [none, none] hh (pi_zipH (C := Ce) (dx := dx) rfl T.zip (pa_name (pv 2) (pa_name (pv 1) pa_nil))) (fun _ _ _ _ _ => (pg_tupHK (n := 2) (ex := ex) (C := Ce) (dx := dx) (K := K) (pgs_cons (pg_name (i := 0) (show List.Nodup [("_law_word" : Str), ("_law_there" : Str)] by decide) rfl (by first | exact Or.inl rfl | exact Or.inr rfl)) (pgs_cons (pg_name (i := 1) (show List.Nodup [("_law_word" : Str), ("_law_there" : Str)] by decide) rfl (by first | exact Or.inl rfl | exact Or.inr rfl)) pgs_nil)) hh)) (fun _ _ _ _ _ => (pifs_one (pt_val (pv 1)))) (fun _ _ _ _ _ => (pv 0)) (cap_nil (by decide) (by decide)) (by decide) rfl (by decide) rfl (nocap rfl)))))))), ?_⟩
  refine ⟨_, rfl, ex, _, _, _, _, _, rfl, hx, ek, rfl, k1, _, rfl, ex, _, _, _, _, _, rfl, hx, ek, rfl, k2, _, rfl, ex, _, _, _, _, _, rfl, hx, ek, rfl, k3, _, rfl, ex, _, _, _, _, _, rfl, hx, ek, rfl, k4, (by show 4 ≤ sizeLine; decide), fun p1 hp1 => ?_⟩
  have u1 := same_new hp1 (.lst [.bl b, .bl (!b), .bl true, .bl false])
  have l1 : (upd H p1 (.lst [.bl b, .bl (!b), .bl true, .bl false])) p1 = some (.lst [.bl b, .bl (!b), .bl true, .bl false]) := upd_same
  have hx := u1 _ _ hx
  generalize upd H p1 (.lst [.bl b, .bl (!b), .bl true, .bl false]) = H1 at u1 l1 hx ⊢
  refine ⟨_, rfl, _, rfl, ex, _, _, _, _, _, rfl, hx, ek, rfl, k5, _, rfl, ex, _, _, _, _, _, rfl, hx, ek, rfl, k6, _, rfl, ex, _, _, _, _, _, rfl, hx, ek, rfl, k7, _, rfl, ex, _, _, _, _, _, rfl, hx, ek, rfl, k8, (by show 4 ≤ sizeLine; decide), fun p2 hp2 => ?_⟩
  have u2 := same_new hp2 (.lst [.bl false, .bl false, .bl false, .bl false])
  have l2 : (upd H1 p2 (.lst [.bl false, .bl false, .bl false, .bl false])) p2 = some (.lst [.bl false, .bl false, .bl false, .bl false]) := upd_same
  have hx := u2 _ _ hx
  have l1 := u2 _ _ l1
  have t2 := u1.trans u2
  generalize upd H1 p2 (.lst [.bl false, .bl false, .bl false, .bl false]) = H2 at t2 l1 l2 hx ⊢
  refine ⟨p1, p2, _, _, rfl, rfl, l1, l2, (by show 8 ≤ sizeLine; decide), fun p3 hp3 => ?_⟩
  have u3 := same_new hp3 (.lst ([V.bl b, .bl (!b), .bl true, .bl false] ++ [.bl false, .bl false, .bl false, .bl false]))
  have l3 : (upd H2 p3 (.lst ([V.bl b, .bl (!b), .bl true, .bl false] ++ [.bl false, .bl false, .bl false, .bl false]))) p3 = some (.lst ([V.bl b, .bl (!b), .bl true, .bl false] ++ [.bl false, .bl false, .bl false, .bl false])) := upd_same
  have hx := u3 _ _ hx
  have t3 := t2.trans u3
  generalize upd H2 p3 (.lst ([V.bl b, .bl (!b), .bl true, .bl false] ++ [.bl false, .bl false, .bl false, .bl false])) = H3 at t3 l3 hx ⊢
  refine ⟨_, rfl, _, rfl, ex, _, _, _, _, _, rfl, hx, ek, rfl, k9, _, rfl, ex, _, _, _, _, _, rfl, hx, ek, rfl, k10, (by show 2 ≤ sizeLine; decide), fun p4 hp4 => ?_⟩
  have u4 := same_new hp4 (.lst [.bl false, .bl false])
  have l4 : (upd H3 p4 (.lst [.bl false, .bl false])) p4 = some (.lst [.bl false, .bl false]) := upd_same
  have hx := u4 _ _ hx
  have l3 := u4 _ _ l3
  have t4 := t3.trans u4
  generalize upd H3 p4 (.lst [.bl false, .bl false]) = H4 at t4 l3 l4 hx ⊢
  refine ⟨p3, p4, _, _, rfl, rfl, l3, l4, (by show 10 ≤ sizeLine; decide), fun p5 hp5 => ?_⟩
  have u5 := same_new hp5 (.lst ((kb50 b).map V.bl))
  have l5 : (upd H4 p5 (.lst ((kb50 b).map V.bl))) p5 = some (.lst ((kb50 b).map V.bl)) := upd_same
  have hx := u5 _ _ hx
  have t5 := t4.trans u5
  change (fun H5 => _) (upd H4 p5 (.lst ((kb50 b).map V.bl)))
  generalize upd H4 p5 (.lst ((kb50 b).map V.bl)) = H5 at t5 l5 hx ⊢
  dsimp only
  refine ⟨(by show 10 ≤ sizeLine; decide), fun p6 hp6 => ?_⟩
  have u6 := same_new hp6 (.lst (kw50.map V.str))
  have l6 : (upd H5 p6 (.lst (kw50.map V.str))) p6 = some (.lst (kw50.map V.str)) := upd_same
  have hx := u6 _ _ hx
  have l5 := u6 _ _ l5
  have t6 := t5.trans u6
  change (fun H6 => _) (upd H5 p6 (.lst (kw50.map V.str)))
  generalize upd H5 p6 (.lst (kw50.map V.str)) = H6 at t6 l5 l6 hx ⊢
  dsimp only
  refine ⟨_, rfl, _, rfl, p6, p5, rfl, ⟨_, SqL.of l6⟩, ⟨_, SqL.of l5⟩, ?_⟩
  refine comp_zipH (K := K) (a := p6) (b := p5) (xs := kw50.map V.str) (zs := (kb50 b).map V.bl) (fun i σ ys H' => ∃ c0 c1, σ = [c0, c1] ∧ ys = kf50 b i ∧ Same H6 H') (by show 10 ≤ 10; decide) ⟨_, _, rfl, rfl, Same.refl _⟩ ?_ ?_ ?_
  · rintro i σ ys H' hi ⟨c0, c1, rfl, rfl, s'⟩
    exact ⟨Nat.le_of_lt (small1000 (by have := kf_len b i; omega)), SqL.of (s' _ _ l6), SqL.of (s' _ _ l5), s' _ _ hx⟩
  · rintro i x y σ ys H' p hi hj ⟨c0, c1, rfl, rfl, s'⟩ hp
    rw [List.getElem?_map] at hi hj
    obtain ⟨z, hz, rfl⟩ := Option.map_eq_some_iff.mp hi
    obtain ⟨t, ht, rfl⟩ := Option.map_eq_some_iff.mp hj
    have s2 := s'.trans (same_new hp (.tup [.str z, .bl t]))
    have nk := kf_next hz ht
    have hlt : i < (kw50.map V.str).length := by rw [List.length_map]; exact lt_of_get hz
    refine ⟨p, _, rfl, SqT.of upd_same, rfl, s2 _ _ hx, _, _, rfl, _, _, rfl, rfl, ?_⟩
    refine ⟨_, rfl, _, rfl, ?_⟩
    cases t with
    | false => exact iteF (nx hlt ⟨_, _, rfl, by rw [nk]; simp, s2⟩)
    | true => exact iteT ⟨_, rfl, nx hlt ⟨_, _, rfl, by rw [nk]; rfl, s2⟩⟩
  · rintro σ ys H' p ⟨c0, c1, rfl, rfl, s'⟩ hp
    refine q p _ (t6.trans (s'.trans (same_new hp _))) ?_
    rw [upd_same]
    exact congrArg (fun l => some (HO.lst l)) (kf_end b)
end
end K50
namespace K50
open PySem L2 Lib Fr Op
seal PE PT PW PA PS PSs PG PGs PI PO PIfs
section
variable {P : Program} {w : World} {K : PySem.W.Frag} {mg : Str → Option Value} {base : Heap} {ad : Adr} {c : Bool}
theorem x__law_tried (T : Txt K mg ad) {f : Addr} {cdv : Value} {A : Around} {outer : List Env} {s : Shared} {H : Hp} {E : XK} (hr : RoomB true 9 (cxB true P w K mg base ["_law_way", "_law_bench", "_law_lamp_here", "_law_first", "_law_last", "_law_found", "_law_at", "_law_e"] "_law_tried" (defScope s__law_tried) f cdv A outer s H E).nox.A) {k : Int} {bv lv fv gv : V} {Q : VK}
    (h : (∃ d o, DV K H bv d ∧ RefB d o ∧ ∀ w H', Same H H' → DV K H' w (.list [.list [.str "bench", .str "value"], optD o]) → Q w H') ∨
      (∃ (ps : List Pc) (d e : PyData), (k = 0 ∨ k = 1 ∨ k = 2) ∧ DV K H bv (benchD ps) ∧ DV K H fv d ∧ DV K H gv e ∧ Good 18 ps ∧ ps.length ≤ 8 ∧ StrB d e false ∧ ∀ w H', Same H H' → DV K H' w (.list [.list [.str "box", .str "value"], .int 0]) → Q w H')) :
    ∃ t, PSs (cxB true P w K mg base ["_law_way", "_law_bench", "_law_lamp_here", "_law_first", "_law_last", "_law_found", "_law_at", "_law_e"] "_law_tried" (defScope s__law_tried) f cdv A outer s H E).nox (defBody s__law_tried) t ∧ t { nx := fun _ H' => Q .non H', rt := Q } [some (.int k), some bv, some lv, some fv, some gv, none, none, none] H := by
  have C__law_names := c__law_names (P := P) (w := w) (base := base) T
  have X := T.ex
  obtain ⟨fI, fd, Fn, O⟩ := X.j_NoBench.ex
  have C_slants_of := x_slants_of (P := P) (w := w) (base := base) T
  have C_sharp_for_all := x_sharp_for_all (P := P) (w := w) (base := base) T
  have C_spots_of := x_spots_of (P := P) (w := w) (base := base) T
  have C_blur_of := x_blur_of (P := P) (w := w) (base := base) T
  have C_sharp_places := x_sharp_places (P := P) (w := w) (base := base) T
  refine ⟨_, (pss_cons (ps_set (i := 5) sc__law_tried.nd rfl (Or.inl rfl) pe_non) (pss_cons (ps_set (i := 6) sc__law_tried.nd rfl (Or.inl rfl) pe_int) (pss_cons (ps_tryGH (i := 7) (ptb_if (pt_cmpR op_eq (pv 0) pe_int (nomark _)) (ptb_call C_slants_of (hr.mono (by decide)) (pa_name (pv 1) (pa_name (pv 2) (pa_name (pv 3) (pa_name (pv 4) pa_nil))))) (ptb_if (pt_cmpR op_eq (pv 0) pe_int (nomark _)) (ptb_call C_sharp_for_all (hr.mono (by decide)) (pa_name (pv 1) (pa_list (pe_lst (pa_name (pv 2) pa_nil)) (pa_name (pv 3) (pa_name (pv 4) (pa_tuple (pe_tup (pa_const pe_int (pa_const pe_int pa_nil))) pa_nil)))))) (ptb_if (pt_cmpR op_eq (pv 0) pe_int (nomark _)) (ptb_call C_sharp_for_all (hr.mono (by decide)) (pa_name (pv 1) (pa_list (pe_lst pa_nil) (pa_name (pv 3) (pa_name (pv 4) (pa_tuple (pe_tup (pa_const pe_int (pa_const pe_int pa_nil))) pa_nil)))))) (ptb_if (pt_cmpR op_eq (pv 0) pe_int (nomark _)) (ptb_call C_spots_of (hr.mono (by decide)) (pa_name (pv 1) (pa_name (pv 2) (pa_tuple (pe_tup (pa_name (pv 3) (pa_name (pv 4) pa_nil))) (pa_tuple (pe_tup (pa_const pe_int (pa_const pe_int pa_nil))) pa_nil))))) (ptb_if (pt_cmpR op_eq (pv 0) pe_int (nomark _)) (ptb_call C_blur_of (hr.mono (by decide)) (pa_name (pv 1) (pa_name (pv 2) (pa_tuple (pe_tup (pa_name (pv 3) (pa_name (pv 4) pa_nil))) (pa_tuple (pe_tup (pa_const pe_int (pa_const pe_int pa_nil))) pa_nil))))) (ptb_call C_sharp_places (hr.mono (by decide)) (pa_name (pv 1) (pa_name (pv 2) (pa_tuple (pe_tup (pa_name (pv 3) (pa_name (pv 4) pa_nil))) (pa_tuple (pe_tup (pa_const pe_int (pa_const pe_int pa_nil))) pa_nil)))))))))) rfl rfl T.ex.m_BenchError (fun a => (pss_cons (ps_set (i := 5) sc__law_tried.nd rfl (Or.inl rfl) (pe_cH (ex := a) rfl C__law_names ((hr.mono (by decide)).mark _) pass01 (pa_name (pv 7) pa_nil))) (pss_one (ps_if (pt_cmpR (op_eqDK (K := K) hr.units) (pv 5) (pe_lst (pa_const pe_str (pa_const pe_str pa_nil))) (nomark _)) (pss_one (ps_set (i := 6) sc__law_tried.nd rfl (Or.inl rfl) (pe_xatHK (K := K) (pv 7)))) pss_nil)))) sc__law_tried.nd rfl rfl) (pss_one (ps_ret (pe_lst (pa_name (pv 5) (pa_name (pv 6) pa_nil)))))))), ?_⟩
  rcases h with ⟨d, o, hd, rb, q⟩ | ⟨ps, d, e, hk, hb, hf, hg, g, h8, bad, q⟩
  · refine ⟨_, rfl, rfl, _, rfl, ite2 (fun _ => ⟨_, rfl, _, rfl, _, rfl, _, rfl, bv, lv, fv, gv, rfl, .inl ⟨d, o, hd, rb, fun H1 dx w1 hx => ?_⟩⟩) (fun _ => ⟨_, rfl, rfl, _, rfl, ite2 (fun _ => ⟨_, rfl, _, rfl, (by show 1 ≤ sizeLine; decide), fun p1 hp1 => ⟨_, rfl, _, rfl, (by show 2 ≤ sizeLine; decide), fun p2 hp2 => ⟨bv, .ref p1, fv, gv, .ref p2, rfl, .inl ⟨d, o, hd.keep ((same_new hp1 _).trans (same_new hp2 _)), rb, fun H1 dx w1 hx => (have w1 : Same H H1 := (same_new hp1 _).trans ((same_new hp2 _).trans w1); ?_)⟩⟩⟩⟩) (fun _ => ⟨_, rfl, rfl, _, rfl, ite2 (fun _ => ⟨_, rfl, (by show 0 ≤ sizeLine; decide), fun p1 hp1 => ⟨_, rfl, _, rfl, (by show 2 ≤ sizeLine; decide), fun p2 hp2 => ⟨bv, .ref p1, fv, gv, .ref p2, rfl, .inl ⟨d, o, hd.keep ((same_new hp1 _).trans (same_new hp2 _)), rb, fun H1 dx w1 hx => (have w1 : Same H H1 := (same_new hp1 _).trans ((same_new hp2 _).trans w1); ?_)⟩⟩⟩⟩) (fun _ => ⟨_, rfl, rfl, _, rfl, ite2 (fun _ => ⟨_, rfl, _, rfl, _, rfl, _, rfl, (by show 2 ≤ sizeLine; decide), fun p1 hp1 => ⟨(by show 2 ≤ sizeLine; decide), fun p2 hp2 => ⟨bv, lv, .ref p1, .ref p2, d, o, rfl, hd.keep ((same_new hp1 _).trans (same_new hp2 _)), rb, fun H1 dx w1 hx => (have w1 : Same H H1 := (same_new hp1 _).trans ((same_new hp2 _).trans w1); ?_)⟩⟩⟩) (fun _ => ⟨_, rfl, rfl, _, rfl, ite2 (fun _ => ⟨_, rfl, _, rfl, _, rfl, _, rfl, (by show 2 ≤ sizeLine; decide), fun p1 hp1 => ⟨(by show 2 ≤ sizeLine; decide), fun p2 hp2 => ⟨bv, lv, .ref p1, .ref p2, d, o, rfl, hd.keep ((same_new hp1 _).trans (same_new hp2 _)), rb, fun H1 dx w1 hx => (have w1 : Same H H1 := (same_new hp1 _).trans ((same_new hp2 _).trans w1); ?_)⟩⟩⟩) (fun _ => ⟨_, rfl, _, rfl, _, rfl, _, rfl, (by show 2 ≤ sizeLine; decide), fun p1 hp1 => ⟨(by show 2 ≤ sizeLine; decide), fun p2 hp2 => ⟨bv, lv, .ref p1, .ref p2, d, o, rfl, hd.keep ((same_new hp1 _).trans (same_new hp2 _)), rb, fun H1 dx w1 hx => (have w1 : Same H H1 := (same_new hp1 _).trans ((same_new hp2 _).trans w1); ?_)⟩⟩⟩)⟩)⟩)⟩)⟩)⟩
    all_goals
      refine ⟨ad.NoBench, rfl, X.x_NoBench_BenchError, fun a ha => ?_⟩
      have ua := same_new ha (xH a ad.NoBench (some dx))
      have hc : (upd H1 a (xH a ad.NoBench (some dx))) a = some (xH a ad.NoBench (some dx)) := upd_same
      have hdx := ua _ _ hx
      have w2 := w1.trans ua
      generalize upd H1 a (xH a ad.NoBench (some dx)) = H2 at hc hdx w2 ⊢
      refine ⟨_, rfl, some dx, _, rfl, .inl ⟨hc, rfl⟩, fun l H3 s3 hl => ?_⟩
      refine ⟨_, rfl, (by show 2 ≤ sizeLine; decide), fun p hp => ?_⟩
      have u4 := same_new hp (.lst [.str "bench", .str "value"])
      have e4 : DV K (upd H3 p (.lst [.str "bench", .str "value"])) (.ref p) (.list [.str "bench", .str "value"]) := .lst (SqL.of upd_same) (.cons (.str _) (.cons (.str _) .nil))
      have d4 : DV K (upd H3 p (.lst [.str "bench", .str "value"])) (.ref l) (.list [.str "bench", .str "value"]) := .lst (SqL.of (u4 _ _ hl)) (.cons (.str _) (.cons (.str _) .nil))
      have hc := u4 _ _ (s3 _ _ hc)
      have hdx := u4 _ _ (s3 _ _ hdx)
      have w4 := w2.trans (s3.trans u4)
      generalize upd H3 p (.lst [.str "bench", .str "value"]) = H4 at e4 d4 hc hdx w4 ⊢
      refine eq_same d4 e4 (⟨by decide +kernel, by decide⟩ : Flat 1 _) ⟨_, rfl, iteT ?_⟩
      refine ⟨_, rfl, a, _, dx, _, _, rfl, hc, hdx, X.e_NoBench, O.hd, O.na, rfl, ?_⟩
      refine ⟨_, rfl, _, rfl, (by show 2 ≤ sizeLine; decide), fun p5 hp5 => ?_⟩
      have u5 := same_new hp5 (.lst [.ref l, atV o])
      exact q _ _ (w4.trans u5) (.lst (SqL.of upd_same) (.cons (d4.keep u5) (.cons (dv_at o) .nil)))
  · rcases hk with rfl | rfl | rfl
    · refine ⟨_, rfl, rfl, _, rfl, iteT' (by decide) ⟨_, rfl, _, rfl, _, rfl, _, rfl, bv, lv, fv, gv, rfl, .inr ⟨ps, d, e, hb, hf, hg, g, h8, bad, fun H1 w1 => ?_⟩⟩⟩
      refine ⟨ad.NoBox, rfl, X.x_NoBox_BenchError, fun a ha => ?_⟩
      have ua := same_new ha (xH a ad.NoBox none)
      have hc : (upd H1 a (xH a ad.NoBox none)) a = some (xH a ad.NoBox none) := upd_same
      have w2 := w1.trans ua
      generalize upd H1 a (xH a ad.NoBox none) = H2 at hc w2 ⊢
      refine ⟨_, rfl, none, _, rfl, .inr ⟨hc, rfl⟩, fun l H3 s3 hl => ?_⟩
      refine ⟨_, rfl, (by show 2 ≤ sizeLine; decide), fun p hp => ?_⟩
      have u4 := same_new hp (.lst [.str "bench", .str "value"])
      have e4 : DV K (upd H3 p (.lst [.str "bench", .str "value"])) (.ref p) (.list [.str "bench", .str "value"]) := .lst (SqL.of upd_same) (.cons (.str _) (.cons (.str _) .nil))
      have d4 : DV K (upd H3 p (.lst [.str "bench", .str "value"])) (.ref l) (.list [.str "box", .str "value"]) := .lst (SqL.of (u4 _ _ hl)) (.cons (.str _) (.cons (.str _) .nil))
      have w4 := w2.trans (s3.trans u4)
      generalize upd H3 p (.lst [.str "bench", .str "value"]) = H4 at e4 d4 w4 ⊢
      refine ⟨_, _, d4, e4, (by decide +kernel), (by decide +kernel), _, rfl, iteF' (by decide +kernel) ?_⟩
      refine ⟨_, rfl, _, rfl, (by show 2 ≤ sizeLine; decide), fun p5 hp5 => ?_⟩
      have u5 := same_new hp5 (.lst [.ref l, .int 0])
      exact q _ _ (w4.trans u5) (.lst (SqL.of upd_same) (.cons (d4.keep u5) (.cons (.int _) .nil)))
    · refine ⟨_, rfl, rfl, _, rfl, iteF' (by decide) ⟨_, rfl, rfl, _, rfl, iteT' (by decide) ⟨_, rfl, _, rfl, (by show 1 ≤ sizeLine; decide), fun p1 hp1 => ⟨_, rfl, _, rfl, (by show 2 ≤ sizeLine; decide), fun p2 hp2 => ⟨bv, .ref p1, fv, gv, .ref p2, rfl, .inr ⟨ps, d, e, hb.keep ((same_new hp1 _).trans (same_new hp2 _)), hf.keep ((same_new hp1 _).trans (same_new hp2 _)), hg.keep ((same_new hp1 _).trans (same_new hp2 _)), g, h8, bad, fun H1 w1 => (have w1 : Same H H1 := (same_new hp1 _).trans ((same_new hp2 _).trans w1); ?_)⟩⟩⟩⟩⟩⟩
      refine ⟨ad.NoBox, rfl, X.x_NoBox_BenchError, fun a ha => ?_⟩
      have ua := same_new ha (xH a ad.NoBox none)
      have hc : (upd H1 a (xH a ad.NoBox none)) a = some (xH a ad.NoBox none) := upd_same
      have w2 := w1.trans ua
      generalize upd H1 a (xH a ad.NoBox none) = H2 at hc w2 ⊢
      refine ⟨_, rfl, none, _, rfl, .inr ⟨hc, rfl⟩, fun l H3 s3 hl => ?_⟩
      refine ⟨_, rfl, (by show 2 ≤ sizeLine; decide), fun p hp => ?_⟩
      have u4 := same_new hp (.lst [.str "bench", .str "value"])
      have e4 : DV K (upd H3 p (.lst [.str "bench", .str "value"])) (.ref p) (.list [.str "bench", .str "value"]) := .lst (SqL.of upd_same) (.cons (.str _) (.cons (.str _) .nil))
      have d4 : DV K (upd H3 p (.lst [.str "bench", .str "value"])) (.ref l) (.list [.str "box", .str "value"]) := .lst (SqL.of (u4 _ _ hl)) (.cons (.str _) (.cons (.str _) .nil))
      have w4 := w2.trans (s3.trans u4)
      generalize upd H3 p (.lst [.str "bench", .str "value"]) = H4 at e4 d4 w4 ⊢
      refine ⟨_, _, d4, e4, (by decide +kernel), (by decide +kernel), _, rfl, iteF' (by decide +kernel) ?_⟩
      refine ⟨_, rfl, _, rfl, (by show 2 ≤ sizeLine; decide), fun p5 hp5 => ?_⟩
      have u5 := same_new hp5 (.lst [.ref l, .int 0])
      exact q _ _ (w4.trans u5) (.lst (SqL.of upd_same) (.cons (d4.keep u5) (.cons (.int _) .nil)))
    · refine ⟨_, rfl, rfl, _, rfl, iteF' (by decide) ⟨_, rfl, rfl, _, rfl, iteF' (by decide) ⟨_, rfl, rfl, _, rfl, iteT' (by decide) ⟨_, rfl, (by show 0 ≤ sizeLine; decide), fun p1 hp1 => ⟨_, rfl, _, rfl, (by show 2 ≤ sizeLine; decide), fun p2 hp2 => ⟨bv, .ref p1, fv, gv, .ref p2, rfl, .inr ⟨ps, d, e, hb.keep ((same_new hp1 _).trans (same_new hp2 _)), hf.keep ((same_new hp1 _).trans (same_new hp2 _)), hg.keep ((same_new hp1 _).trans (same_new hp2 _)), g, h8, bad, fun H1 w1 => (have w1 : Same H H1 := (same_new hp1 _).trans ((same_new hp2 _).trans w1); ?_)⟩⟩⟩⟩⟩⟩⟩
      refine ⟨ad.NoBox, rfl, X.x_NoBox_BenchError, fun a ha => ?_⟩
      have ua := same_new ha (xH a ad.NoBox none)
      have hc : (upd H1 a (xH a ad.NoBox none)) a = some (xH a ad.NoBox none) := upd_same
      have w2 := w1.trans ua
      generalize upd H1 a (xH a ad.NoBox none) = H2 at hc w2 ⊢
      refine ⟨_, rfl, none, _, rfl, .inr ⟨hc, rfl⟩, fun l H3 s3 hl => ?_⟩
      refine ⟨_, rfl, (by show 2 ≤ sizeLine; decide), fun p hp => ?_⟩
      have u4 := same_new hp (.lst [.str "bench", .str "value"])
      have e4 : DV K (upd H3 p (.lst [.str "bench", .str "value"])) (.ref p) (.list [.str "bench", .str "value"]) := .lst (SqL.of upd_same) (.cons (.str _) (.cons (.str _) .nil))
      have d4 : DV K (upd H3 p (.lst [.str "bench", .str "value"])) (.ref l) (.list [.str "box", .str "value"]) := .lst (SqL.of (u4 _ _ hl)) (.cons (.str _) (.cons (.str _) .nil))
      have w4 := w2.trans (s3.trans u4)
      generalize upd H3 p (.lst [.str "bench", .str "value"]) = H4 at e4 d4 w4 ⊢
      refine ⟨_, _, d4, e4, (by decide +kernel), (by decide +kernel), _, rfl, iteF' (by decide +kernel) ?_⟩
      refine ⟨_, rfl, _, rfl, (by show 2 ≤ sizeLine; decide), fun p5 hp5 => ?_⟩
      have u5 := same_new hp5 (.lst [.ref l, .int 0])
      exact q _ _ (w4.trans u5) (.lst (SqL.of upd_same) (.cons (d4.keep u5) (.cons (.int _) .nil)))
theorem c__law_tried (T : Txt K mg ad) : CalB P w K mg base true 10 "_law_tried" ["_law_way", "_law_bench", "_law_lamp_here", "_law_first", "_law_last"] (spTried K) := by
  have C__law_names := c__law_names (P := P) (w := w) (base := base) T
  refine T.t__law_tried.calN sc__law_tried (fun _ _ _ _ _ _ => by5 fun _ _ _ _ _ => rfl) (fun vs H Q E h => ?_) (fun f cdv A outer s H vs Q E hr h => ?_)
  · obtain ⟨_, _, _, _, _, rfl, _⟩ := h; rfl
  obtain ⟨k, bv, lv, fv, gv, rfl, h⟩ := h
  rw [← or_assoc] at h
  rcases h with h | ⟨ps, x, hb, hl, hf, hg, g, h8, lp, q⟩
  · exact x__law_tried T hr h
  have X := T.ex
  have C_slants_of := c_slants_of (P := P) (w := w) (base := base) T
  have C_sharp_for_all := c_sharp_for_all (P := P) (w := w) (base := base) T
  have C_spots_of := c_spots_of (P := P) (w := w) (base := base) T
  have C_blur_of := c_blur_of (P := P) (w := w) (base := base) T
  have C_sharp_places := c_sharp_places (P := P) (w := w) (base := base) T
  refine ⟨_, (pss_cons (ps_set (i := 5) sc__law_tried.nd rfl (Or.inl rfl) pe_non) (pss_cons (ps_set (i := 6) sc__law_tried.nd rfl (Or.inl rfl) pe_int) (pss_cons (ps_tryGH (i := 7) (ptb_if (pt_cmpR op_eq (pv 0) pe_int (nomark _)) (ptb_call C_slants_of (hr.mono (by decide)) (pa_name (pv 1) (pa_name (pv 2) (pa_name (pv 3) (pa_name (pv 4) pa_nil))))) (ptb_if (pt_cmpR op_eq (pv 0) pe_int (nomark _)) (ptb_call C_sharp_for_all (hr.mono (by decide)) (pa_name (pv 1) (pa_list (pe_lst (pa_name (pv 2) pa_nil)) (pa_name (pv 3) (pa_name (pv 4) (pa_tuple (pe_tup (pa_const pe_int (pa_const pe_int pa_nil))) pa_nil)))))) (ptb_if (pt_cmpR op_eq (pv 0) pe_int (nomark _)) (ptb_call C_sharp_for_all (hr.mono (by decide)) (pa_name (pv 1) (pa_list (pe_lst pa_nil) (pa_name (pv 3) (pa_name (pv 4) (pa_tuple (pe_tup (pa_const pe_int (pa_const pe_int pa_nil))) pa_nil)))))) (ptb_if (pt_cmpR op_eq (pv 0) pe_int (nomark _)) (ptb_call C_spots_of (hr.mono (by decide)) (pa_name (pv 1) (pa_name (pv 2) (pa_tuple (pe_tup (pa_name (pv 3) (pa_name (pv 4) pa_nil))) (pa_tuple (pe_tup (pa_const pe_int (pa_const pe_int pa_nil))) pa_nil))))) (ptb_if (pt_cmpR op_eq (pv 0) pe_int (nomark _)) (ptb_call C_blur_of (hr.mono (by decide)) (pa_name (pv 1) (pa_name (pv 2) (pa_tuple (pe_tup (pa_name (pv 3) (pa_name (pv 4) pa_nil))) (pa_tuple (pe_tup (pa_const pe_int (pa_const pe_int pa_nil))) pa_nil))))) (ptb_call C_sharp_places (hr.mono (by decide)) (pa_name (pv 1) (pa_name (pv 2) (pa_tuple (pe_tup (pa_name (pv 3) (pa_name (pv 4) pa_nil))) (pa_tuple (pe_tup (pa_const pe_int (pa_const pe_int pa_nil))) pa_nil)))))))))) rfl rfl T.ex.m_BenchError (fun a => (pss_cons (ps_set (i := 5) sc__law_tried.nd rfl (Or.inl rfl) (pe_cH (ex := a) rfl C__law_names ((hr.mono (by decide)).mark _) pass01 (pa_name (pv 7) pa_nil))) (pss_one (ps_if (pt_cmpR (op_eqDK (K := K) hr.units) (pv 5) (pe_lst (pa_const pe_str (pa_const pe_str pa_nil))) (nomark _)) (pss_one (ps_set (i := 6) sc__law_tried.nd rfl (Or.inl rfl) (pe_xatHK (K := K) (pv 7)))) pss_nil)))) sc__law_tried.nd rfl rfl) (pss_one (ps_ret (pe_lst (pa_name (pv 5) (pa_name (pv 6) pa_nil)))))))), ?_⟩
  obtain ⟨bh, bs, bf, bl, lo⟩ := id lp
  have pl : ps.length * (18 + 1) ≤ 8 * 19 := Nat.mul_le_mul h8 (Nat.le_refl _)
  refine ⟨_, rfl, rfl, _, rfl, ite2 (fun _ => ⟨_, rfl, _, rfl, _, rfl, _, rfl, _, _, .cons hb (.cons hl (.cons hf (.cons hg .nil))), ⟨ps, x.h, x.s, x.f, x.l, 18, 12, 1000, rfl, g, bh, bs, bf.mono (by decide), bl.mono (by decide), lo, by omega, by decide, rfl⟩, fun v1 H1 w1 _ => ?_⟩) (fun _ => ⟨_, rfl, rfl, _, rfl, ite2 (fun _ => ⟨_, rfl, _, rfl, (by show 1 ≤ sizeLine; decide), fun p1 hp1 => ⟨_, rfl, _, rfl, (by show 2 ≤ sizeLine; decide), fun p2 hp2 => ⟨bv, p1, fv, gv, .ref p2, ps, [(x.h, x.s)], x.f, x.l, mkRat 1 2, rfl, hb.keep ((same_new hp1 _).trans (same_new hp2 _)), (show DV K (upd H p1 (.lst [lv])) (.ref p1) (.list [pairD x.h x.s]) from .lst (SqL.of upd_same) (.cons (hl.keep (same_new hp1 _)) .nil)).keep (same_new hp2 _), hf.keep ((same_new hp1 _).trans (same_new hp2 _)), hg.keep ((same_new hp1 _).trans (same_new hp2 _)), .tup (SqT.of upd_same) (.cons (.int _) (.cons (.int _) .nil)), g, h8, (fun z hz => by first | (rw [List.mem_singleton.mp hz]; exact ⟨bh, bs⟩) | exact nomatch hz), (by simp), bf, bl, lo, (by decide +kernel), ⟨by decide +kernel, by decide +kernel⟩, fun v1 H1 w1 => (have w1 : Same H H1 := ((same_new hp1 _).trans (same_new hp2 _)).trans w1; ?_)⟩⟩⟩) (fun _ => ⟨_, rfl, rfl, _, rfl, ite2 (fun _ => ⟨_, rfl, (by show 0 ≤ sizeLine; decide), fun p1 hp1 => ⟨_, rfl, _, rfl, (by show 2 ≤ sizeLine; decide), fun p2 hp2 => ⟨bv, p1, fv, gv, .ref p2, ps, [], x.f, x.l, mkRat 1 2, rfl, hb.keep ((same_new hp1 _).trans (same_new hp2 _)), (show DV K (upd H p1 (.lst [])) (.ref p1) (.list []) from .lst (SqL.of upd_same) .nil).keep (same_new hp2 _), hf.keep ((same_new hp1 _).trans (same_new hp2 _)), hg.keep ((same_new hp1 _).trans (same_new hp2 _)), .tup (SqT.of upd_same) (.cons (.int _) (.cons (.int _) .nil)), g, h8, (fun z hz => by first | (rw [List.mem_singleton.mp hz]; exact ⟨bh, bs⟩) | exact nomatch hz), (by simp), bf, bl, lo, (by decide +kernel), ⟨by decide +kernel, by decide +kernel⟩, fun v1 H1 w1 => (have w1 : Same H H1 := ((same_new hp1 _).trans (same_new hp2 _)).trans w1; ?_)⟩⟩⟩) (fun _ => ⟨_, rfl, rfl, _, rfl, ite2 (fun _ => ⟨_, rfl, _, rfl, _, rfl, _, rfl, (by show 2 ≤ sizeLine; decide), fun p1 hp1 => ⟨(by show 2 ≤ sizeLine; decide), fun p2 hp2 => ⟨_, _, .cons (hb.keep ((same_new hp1 _).trans (same_new hp2 _))) (.cons (hl.keep ((same_new hp1 _).trans (same_new hp2 _))) (.cons ((show DV K (upd H p1 (.tup [fv, gv])) (.ref p1) (pairD x.f x.l) from DV.upd2 hp1 hf hg).keep (same_new hp2 _)) (.cons (show DV K _ _ (frD (mkRat 1 3)) from .tup (SqT.of upd_same) (.cons (.int _) (.cons (.int _) .nil))) .nil))), ⟨ps, x.h, x.s, x.f, x.l, mkRat 1 3, 18, 12, 2, rfl, g, bh, bs, bf, bl, ⟨by decide +kernel, by decide +kernel⟩, by omega, rfl⟩, fun v1 H1 w1 _ => (have w1 : Same H H1 := ((same_new hp1 _).trans (same_new hp2 _)).trans w1; ?_)⟩⟩⟩) (fun _ => ⟨_, rfl, rfl, _, rfl, ite2 (fun _ => ⟨_, rfl, _, rfl, _, rfl, _, rfl, (by show 2 ≤ sizeLine; decide), fun p1 hp1 => ⟨(by show 2 ≤ sizeLine; decide), fun p2 hp2 => ⟨_, _, .cons (hb.keep ((same_new hp1 _).trans (same_new hp2 _))) (.cons (hl.keep ((same_new hp1 _).trans (same_new hp2 _))) (.cons ((show DV K (upd H p1 (.tup [fv, gv])) (.ref p1) (pairD x.f x.l) from DV.upd2 hp1 hf hg).keep (same_new hp2 _)) (.cons (show DV K _ _ (frD (mkRat 1 3)) from .tup (SqT.of upd_same) (.cons (.int _) (.cons (.int _) .nil))) .nil))), ⟨ps, x.h, x.s, x.f, x.l, mkRat 1 3, 18, 12, 2, rfl, g, bh, bs, bf, bl, ⟨by decide +kernel, by decide +kernel⟩, by omega, rfl⟩, fun v1 H1 w1 _ => (have w1 : Same H H1 := ((same_new hp1 _).trans (same_new hp2 _)).trans w1; ?_)⟩⟩⟩) (fun _ => ⟨_, rfl, _, rfl, _, rfl, _, rfl, (by show 2 ≤ sizeLine; decide), fun p1 hp1 => ⟨(by show 2 ≤ sizeLine; decide), fun p2 hp2 => ⟨_, _, .cons (hb.keep ((same_new hp1 _).trans (same_new hp2 _))) (.cons (hl.keep ((same_new hp1 _).trans (same_new hp2 _))) (.cons ((show DV K (upd H p1 (.tup [fv, gv])) (.ref p1) (pairD x.f x.l) from DV.upd2 hp1 hf hg).keep (same_new hp2 _)) (.cons (show DV K _ _ (frD (mkRat 1 3)) from .tup (SqT.of upd_same) (.cons (.int _) (.cons (.int _) .nil))) .nil))), ⟨ps, x, mkRat 1 3, rfl, g, h8, lpu_b lp, (by decide +kernel), ⟨by decide +kernel, by decide +kernel⟩, rfl⟩, fun v1 H1 w1 _ => (have w1 : Same H H1 := ((same_new hp1 _).trans (same_new hp2 _)).trans w1; ?_)⟩⟩⟩)⟩)⟩)⟩)⟩)⟩
  all_goals exact ⟨_, rfl, _, rfl, (by show 2 ≤ sizeLine; decide), fun p5 hp5 => q _ _ (w1.trans (same_new hp5 _)) (.lst (SqL.of upd_same) (.cons .non (.cons (.int _) .nil)))⟩
end
end K50
namespace K50
open PySem L2 Lib Fr Op
seal PE PT PW PA PS PSs PG PGs PI PO PIfs
section
variable {P : Program} {w : World} {K : PySem.W.Frag} {mg : Str → Option Value} {base : Heap} {ad : Adr} {c : Bool}
theorem c__law_bad_slants (T : Txt K mg ad) : CalB P w K mg base true 2 "_law_bad_slants" ["_law_lamp_here", "_law_cell"] (spBadSl K) := by
  refine T.t__law_bad_slants.calN sc__law_bad_slants (fun _ _ _ _ _ _ => by2 fun _ _ => rfl) (fun vs H Q E h => ?_) (fun f cdv A outer s H0 vs Q E hr h => ?_)
  · obtain ⟨_, _, _, rfl, _⟩ := h; rfl
  obtain ⟨v, x, z, rfl, hv, lp, q⟩ := h
  obtain ⟨la, r1, r2, r3, r4, rfl, hla, k1, k2, k3, k4⟩ := DV.t4 (show DV K H0 v (.tuple [frD x.h, frD x.s, frD x.f, frD x.l]) from hv)
  refine ⟨_, (pss_cons (ps_set (i := 2) sc__law_bad_slants.nd rfl (Or.inl rfl) (pe_ix ix_list (pe_lst (pa_const pe_int (pa_const pe_str (pa_const pe_non (pa_const pe_bl (pa_tuple (pe_tup (pa_const pe_int (pa_const pe_int pa_nil))) (pa_tuple (pe_tup (pa_const pe_int (pa_const pe_int pa_nil))) (pa_tuple (pe_tup (pa_const pe_int (pa_const pe_int (pa_const pe_int pa_nil)))) (pa_list (pe_lst (pa_const pe_int (pa_const pe_int pa_nil))) (pa_tuple (pe_tup (pa_const pe_int (pa_un (pe_un un_neg pe_int) pa_nil))) (pa_tuple (pe_tup (pa_const pe_int pa_nil)) (pa_tuple (pe_tup (pa_const pe_bl (pa_const pe_int pa_nil))) (pa_tuple (pe_tup pa_nil) pa_nil))))))))))))) (pe_op op_mod (pe_op op_fdiv (pv 1) pe_int) pe_int) (fun _ _ => rfl))) (pss_cons (ps_if (PW.pt (pw_and (pt_cmpR op_eq (pe_op op_mod (pv 1) pe_int) pe_int (nomark _)) (pw_and1 (pt_cmpR (op_neD hr.units) (pe_ix ix_tup (pv 0) pe_int (fun _ _ => rfl)) (pe_ix ix_tup (pv 0) pe_int (fun _ _ => rfl)) (nomark _))))) (pss_one (ps_ret (pe_lst (pa_sub (pe_ix ix_tup (pv 0) pe_int (fun _ _ => rfl)) (pa_sub (pe_ix ix_tup (pv 0) pe_int (fun _ _ => rfl)) pa_nil))))) pss_nil) (pss_cons (ps_if (pt_cmpR op_eq (pe_op op_mod (pv 1) pe_int) pe_int (nomark _)) (pss_one (ps_ret (pe_lst (pa_sub (pe_ix ix_tup (pv 0) pe_int (fun _ _ => rfl)) (pa_name (pv 2) pa_nil))))) pss_nil) (pss_one (ps_ret (pe_lst (pa_name (pv 2) (pa_sub (pe_ix ix_list (pe_lst (pa_sub (pe_ix ix_tup (pv 0) pe_int (fun _ _ => rfl)) (pa_name (pv 2) pa_nil))) (pe_op op_mod (pe_op op_fdiv (pv 1) pe_int) pe_int) (fun _ _ => rfl)) pa_nil)))))))), ?_⟩
  refine ⟨(by show 2 ≤ sizeLine; decide), fun p1 hp1 => ?_⟩
  have u1 := same_new hp1 (.tup [.int 2, .int 4])
  have d1 : DV K (upd H0 p1 (.tup [.int 2, .int 4])) (.ref p1) (.tuple [.int 2, .int 4]) := .tup (SqT.of upd_same) (.cons (.int _) (.cons (.int _) .nil))
  generalize upd H0 p1 (.tup [.int 2, .int 4]) = H1 at u1 d1 ⊢
  refine ⟨(by show 2 ≤ sizeLine; decide), fun p2 hp2 => ?_⟩
  have u2 := same_new hp2 (.tup [.int 1, .int 0])
  have d2 : DV K (upd H1 p2 (.tup [.int 1, .int 0])) (.ref p2) (.tuple [.int 1, .int 0]) := .tup (SqT.of upd_same) (.cons (.int _) (.cons (.int _) .nil))
  generalize upd H1 p2 (.tup [.int 1, .int 0]) = H2 at u2 d2 ⊢
  refine ⟨(by show 3 ≤ sizeLine; decide), fun p3 hp3 => ?_⟩
  have u3 := same_new hp3 (.tup [.int 1, .int 2, .int 1])
  have d3 : DV K (upd H2 p3 (.tup [.int 1, .int 2, .int 1])) (.ref p3) (.tuple [.int 1, .int 2, .int 1]) := .tup (SqT.of upd_same) (.cons (.int _) (.cons (.int _) (.cons (.int _) .nil)))
  generalize upd H2 p3 (.tup [.int 1, .int 2, .int 1]) = H3 at u3 d3 ⊢
  refine ⟨(by show 2 ≤ sizeLine; decide), fun p4 hp4 => ?_⟩
  have u4 := same_new hp4 (.lst [.int 1, .int 2])
  have d4 : DV K (upd H3 p4 (.lst [.int 1, .int 2])) (.ref p4) (.list [.int 1, .int 2]) := .lst (SqL.of upd_same) (.cons (.int _) (.cons (.int _) .nil))
  have l4 : (upd H3 p4 (.lst [.int 1, .int 2])) p4 = some (.lst [.int 1, .int 2]) := upd_same
  generalize upd H3 p4 (.lst [.int 1, .int 2]) = H4 at u4 d4 l4 ⊢
  refine ⟨_, rfl, (by show 2 ≤ sizeLine; decide), fun p5 hp5 => ?_⟩
  have u5 := same_new hp5 (.tup [.int 1, .int (-2)])
  have d5 : DV K (upd H4 p5 (.tup [.int 1, .int (-2)])) (.ref p5) (.tuple [.int 1, .int (-2)]) := .tup (SqT.of upd_same) (.cons (.int _) (.cons (.int _) .nil))
  generalize upd H4 p5 (.tup [.int 1, .int (-2)]) = H5 at u5 d5 ⊢
  refine ⟨(by show 1 ≤ sizeLine; decide), fun p6 hp6 => ?_⟩
  have u6 := same_new hp6 (.tup [.int 1])
  have d6 : DV K (upd H5 p6 (.tup [.int 1])) (.ref p6) (.tuple [.int 1]) := .tup (SqT.of upd_same) (.cons (.int _) .nil)
  generalize upd H5 p6 (.tup [.int 1]) = H6 at u6 d6 ⊢
  refine ⟨(by show 2 ≤ sizeLine; decide), fun p7 hp7 => ?_⟩
  have u7 := same_new hp7 (.tup [.bl true, .int 1])
  have d7 : DV K (upd H6 p7 (.tup [.bl true, .int 1])) (.ref p7) (.tuple [.bool true, .int 1]) := .tup (SqT.of upd_same) (.cons (.bl _) (.cons (.int _) .nil))
  generalize upd H6 p7 (.tup [.bl true, .int 1]) = H7 at u7 d7 ⊢
  refine ⟨(by show 0 ≤ sizeLine; decide), fun p8 hp8 => ?_⟩
  have u8 := same_new hp8 (.tup [])
  have d8 : DV K (upd H7 p8 (.tup [])) (.ref p8) (.tuple []) := .tup (SqT.of upd_same) .nil
  generalize upd H7 p8 (.tup []) = H8 at u8 d8 ⊢
  refine ⟨(by show 12 ≤ sizeLine; decide), fun p9 hp9 => ?_⟩
  have u9 := same_new hp9 (.lst [.int 1, .str "1", .non, .bl true, .ref p1, .ref p2, .ref p3, .ref p4, .ref p5, .ref p6, .ref p7, .ref p8])
  have d9 : DV K (upd H8 p9 (.lst [.int 1, .str "1", .non, .bl true, .ref p1, .ref p2, .ref p3, .ref p4, .ref p5, .ref p6, .ref p7, .ref p8])) (.ref p9) (.list [.int 1, .str "1", .none, .bool true, .tuple [.int 2, .int 4], .tuple [.int 1, .int 0], .tuple [.int 1, .int 2, .int 1], .list [.int 1, .int 2], .tuple [.int 1, .int (-2)], .tuple [.int 1], .tuple [.bool true, .int 1], .tuple []]) := .lst (SqL.of upd_same) (.cons (.int _) (.cons (.str _) (.cons .non (.cons (.bl _) (.cons (d1.keep (u2.trans (u3.trans (u4.trans (u5.trans (u6.trans (u7.trans (u8.trans (u9))))))))) (.cons (d2.keep (u3.trans (u4.trans (u5.trans (u6.trans (u7.trans (u8.trans (u9)))))))) (.cons (d3.keep (u4.trans (u5.trans (u6.trans (u7.trans (u8.trans (u9))))))) (.cons (d4.keep (u5.trans (u6.trans (u7.trans (u8.trans (u9)))))) (.cons (d5.keep (u6.trans (u7.trans (u8.trans (u9))))) (.cons (d6.keep (u7.trans (u8.trans (u9)))) (.cons (d7.keep (u8.trans (u9))) (.cons (d8.keep (u9)) .nil))))))))))))
  have l9 : (upd H8 p9 (.lst [.int 1, .str "1", .non, .bl true, .ref p1, .ref p2, .ref p3, .ref p4, .ref p5, .ref p6, .ref p7, .ref p8])) p9 = some (.lst [.int 1, .str "1", .non, .bl true, .ref p1, .ref p2, .ref p3, .ref p4, .ref p5, .ref p6, .ref p7, .ref p8]) := upd_same
  generalize upd H8 p9 (.lst [.int 1, .str "1", .non, .bl true, .ref p1, .ref p2, .ref p3, .ref p4, .ref p5, .ref p6, .ref p7, .ref p8]) = H9 at u9 d9 l9 ⊢
  have odds : DVs K H9 [.int 1, .str "1", .non, .bl true, .ref p1, .ref p2, .ref p3, .ref p4, .ref p5, .ref p6, .ref p7, .ref p8] [.int 1, .str "1", .none, .bool true, .tuple [.int 2, .int 4], .tuple [.int 1, .int 0], .tuple [.int 1, .int 2, .int 1], .list [.int 1, .int 2], .tuple [.int 1, .int (-2)], .tuple [.int 1], .tuple [.bool true, .int 1], .tuple []] := (.cons (.int _) (.cons (.str _) (.cons .non (.cons (.bl _) (.cons (d1.keep (u2.trans (u3.trans (u4.trans (u5.trans (u6.trans (u7.trans (u8.trans (u9))))))))) (.cons (d2.keep (u3.trans (u4.trans (u5.trans (u6.trans (u7.trans (u8.trans (u9)))))))) (.cons (d3.keep (u4.trans (u5.trans (u6.trans (u7.trans (u8.trans (u9))))))) (.cons (d4.keep (u5.trans (u6.trans (u7.trans (u8.trans (u9)))))) (.cons (d5.keep (u6.trans (u7.trans (u8.trans (u9))))) (.cons (d6.keep (u7.trans (u8.trans (u9)))) (.cons (d7.keep (u8.trans (u9))) (.cons (d8.keep (u9)) .nil))))))))))))
  obtain ⟨ov, hov, hmo⟩ := atI_in (xs := [(.int 1 : V), .str "1", .non, .bl true, .ref p1, .ref p2, .ref p3, .ref p4, .ref p5, .ref p6, .ref p7, .ref p8]) (r := z / 3 % 12) (by omega) (by simp only [List.length_cons, List.length_nil]; omega)
  refine ⟨_, rfl, _, _, rfl, rfl, ⟨by decide, by decide⟩, _, _, rfl, rfl, (by show (0 : Int) < 12; decide), p9, _, _, ov, rfl, rfl, SqL.of l9, hov, ?_⟩
  obtain ⟨oi, hoi⟩ := List.getElem?_of_mem hmo
  obtain ⟨od, hod, hox⟩ := odds.get hoi
  have hor : ratD od = false := by
    have hod := List.mem_of_getElem? hod
    simp only [List.mem_cons, List.not_mem_nil, or_false] at hod
    rcases hod with rfl | rfl | rfl | rfl | rfl | rfl | rfl | rfl | rfl | rfl | rfl | rfl <;> decide +kernel
  have tall : Same H0 H9 := (u1.trans (u2.trans (u3.trans (u4.trans (u5.trans (u6.trans (u7.trans (u8.trans (u9)))))))))
  clear hod hmo hov hoi odds d1 u1 d2 u2 d3 u3 d4 u4 d5 u5 d6 u6 d7 u7 d8 u8 d9 u9
  have hla := hla.keep tall
  have k3 := k3.keep tall
  have k4 := k4.keep tall
  have sf := lp.f.sm (by decide)
  have sl := lp.l.sm (by decide)
  refine ⟨_, rfl, _, _, rfl, rfl, (by show (0 : Int) < 3; decide), rfl, _, rfl, ite2 (fun c0 => ⟨_, rfl, la, _, _, _, rfl, rfl, hla, rfl, _, rfl, la, _, _, _, rfl, rfl, hla, rfl, ne_frD k3 k4 ⟨_, rfl, ite2 (fun c1 => ?_) (fun c1 => ?_)⟩⟩) (fun c0 => iteF ?_)⟩
  · refine ⟨_, rfl, la, _, _, _, rfl, rfl, hla, rfl, _, rfl, la, _, _, _, rfl, rfl, hla, rfl, (by show 2 ≤ sizeLine; decide), fun p hp => ?_⟩
    have u := same_new hp (.lst [r4, r3])
    have ne : x.f ≠ x.l := fun e => by rw [decide_eq_true e] at c1; cases c1
    have lo := lp.o
    exact q p r4 r3 _ _ _ (tall.trans u) upd_same (k4.keep u) (k3.keep u) (.turned sl sf (by grind))
  all_goals
    refine ⟨_, rfl, _, _, rfl, rfl, (by show (0 : Int) < 3; decide), rfl, _, rfl, ite2 (fun c2 => ?_) (fun c2 => ?_)⟩
    · refine ⟨_, rfl, la, _, _, _, rfl, rfl, hla, rfl, _, rfl, (by show 2 ≤ sizeLine; decide), fun p hp => ?_⟩
      have u := same_new hp (.lst [r3, ov])
      exact q p r3 ov _ _ _ (tall.trans u) upd_same (k3.keep u) (hox.keep u) (.two hor)
    · refine ⟨_, rfl, _, rfl, la, _, _, _, rfl, rfl, hla, rfl, _, rfl, (by show 2 ≤ sizeLine; decide), fun p hp => ?_⟩
      have u := same_new hp (.lst [r4, ov])
      have lu : (upd H9 p (.lst [r4, ov])) p = some (.lst [r4, ov]) := upd_same
      have two : DVs K (upd H9 p (.lst [r4, ov])) [r4, ov] [frD x.l, od] := .cons (k4.keep u) (.cons (hox.keep u) .nil)
      have hox := hox.keep u
      have tu := tall.trans u
      generalize upd H9 p (.lst [r4, ov]) = G at lu two hox tu ⊢
      obtain ⟨o2, ho2, hm2⟩ := atI_in (xs := [r4, ov]) (r := z / 36 % 2) (by omega) (by simp only [List.length_cons, List.length_nil]; omega)
      obtain ⟨i2, hi2⟩ := List.getElem?_of_mem hm2
      obtain ⟨d2, hd2, hx2⟩ := two.get hi2
      refine ⟨_, rfl, _, _, rfl, rfl, ⟨by decide, by decide⟩, _, _, rfl, rfl, (by show (0 : Int) < 2; decide), p, _, _, o2, rfl, rfl, SqL.of lu, ho2, (by show 2 ≤ sizeLine; decide), fun p' hp' => ?_⟩
      have u' := same_new hp' (.lst [ov, o2])
      exact q p' ov o2 _ _ _ (tu.trans u') upd_same (hox.keep u') (hx2.keep u') (.one hor)
theorem c__law_bad_bench (T : Txt K mg ad) : CalB P w K mg base true 2 "_law_bad_bench" ["_law_bench", "_law_cell"] (spBadBe K) := by
  refine T.t__law_bad_bench.calN sc__law_bad_bench (fun _ _ _ _ _ _ => by2 fun _ _ => rfl) (fun vs H Q E h => ?_) (fun f cdv A outer s H0 vs Q E hr h => ?_)
  · obtain ⟨_, _, _, _, rfl, _⟩ := h; rfl
  obtain ⟨lb, xs, ps, z, rfl, hlb, hxs, g, h8, q⟩ := h
  refine ⟨_, (pss_cons (ps_set (i := 2) sc__law_bad_bench.nd rfl (Or.inl rfl) (pe_op op_mod (pe_op op_fdiv (pv 1) pe_int) (pe_op op_add (pe_callB call_len_seq rfl T.len bt_len (pa_name (pv 0) pa_nil)) pe_int))) (pss_cons (ps_set (i := 3) sc__law_bad_bench.nd rfl (Or.inl rfl) (pe_ix ix_list (pe_lst (pa_const pe_non (pa_tuple (pe_tup (pa_const pe_str pa_nil)) (pa_list (pe_lst (pa_const pe_str (pa_tuple (pe_tup (pa_const pe_int (pa_const pe_int pa_nil))) pa_nil))) (pa_tuple (pe_tup (pa_const pe_str (pa_tuple (pe_tup (pa_const pe_int (pa_const pe_int pa_nil))) pa_nil))) (pa_tuple (pe_tup (pa_const pe_str (pa_tuple (pe_tup (pa_const pe_int (pa_const pe_int pa_nil))) (pa_tuple (pe_tup (pa_const pe_int (pa_const pe_int pa_nil))) pa_nil)))) (pa_const pe_str (pa_const pe_int pa_nil)))))))) (pe_op op_mod (pv 1) pe_int) (fun _ _ => rfl))) (pss_cons (ps_if (pt_cmpR op_eq (pe_op op_mod (pe_op op_fdiv (pv 1) pe_int) pe_int) pe_int (nomark _)) (pss_one (ps_ret (pe_lst (pa_sub (pe_ix ix_list (pe_lst (pa_call (pe_callTy call_tuple_of rfl T.tuple bt_tuple (pa_name (pv 0) pa_nil)) (pa_const pe_non (pa_const pe_str (pa_bin (pe_op op_rep (pe_lst (pa_tuple (pe_tup (pa_const pe_str (pa_tuple (pe_tup (pa_const pe_int (pa_const pe_int pa_nil))) pa_nil))) pa_nil)) pe_int) (pa_dict pe_dnew pa_nil)))))) (pe_op op_mod (pe_op op_fdiv (pv 1) pe_int) pe_int) (fun _ _ => rfl)) (pa_const pe_non pa_nil))))) pss_nil) (pss_one (ps_ret (pe_lst (pa_bin (pe_op op_cat (pe_op op_cat (pe_slice sl_list (pv 0) po_none (po_some (pv 2))) (pe_lst (pa_name (pv 3) pa_nil))) (pe_slice sl_list (pv 0) (po_some (pv 2)) po_none)) (pa_name (pv 2) pa_nil)))))))), ?_⟩
  refine ⟨_, rfl, _, _, rfl, rfl, ⟨by decide, by decide⟩, _, rfl, lb, _, rfl, .inl (SqL.of hlb), _, _, rfl, rfl, _, _, rfl, rfl, (by show (0 : Int) < (xs.length : Int) + 1; omega), ?_⟩
  obtain ⟨i, ei, hi⟩ : ∃ i : Nat, z / 7 % ((xs.length : Int) + 1) = (i : Int) ∧ i ≤ xs.length := by
    have h0 := Int.emod_nonneg (z / 7) (show ((xs.length : Int) + 1) ≠ 0 by omega)
    have h1 := Int.emod_lt_of_pos (z / 7) (show 0 < ((xs.length : Int) + 1) by omega)
    exact ⟨(z / 7 % ((xs.length : Int) + 1)).toNat, by omega, by omega⟩
  dsimp only
  rw [ei]
  refine ⟨(by show 1 ≤ sizeLine; decide), fun p1 hp1 => ?_⟩
  have u1 := same_new hp1 (.tup [.str "gap"])
  have d1 : DV K (upd H0 p1 (.tup [.str "gap"])) (.ref p1) (.tuple [.str "gap"]) := .tup (SqT.of upd_same) (.cons (.str _) .nil)
  generalize upd H0 p1 (.tup [.str "gap"]) = H1 at u1 d1 ⊢
  refine ⟨(by show 2 ≤ sizeLine; decide), fun p2 hp2 => ?_⟩
  have u2 := same_new hp2 (.tup [.int 1, .int 2])
  have d2 : DV K (upd H1 p2 (.tup [.int 1, .int 2])) (.ref p2) (.tuple [.int 1, .int 2]) := .tup (SqT.of upd_same) (.cons (.int _) (.cons (.int _) .nil))
  generalize upd H1 p2 (.tup [.int 1, .int 2]) = H2 at u2 d2 ⊢
  refine ⟨(by show 2 ≤ sizeLine; decide), fun p3 hp3 => ?_⟩
  have u3 := same_new hp3 (.lst [.str "gap", .ref p2])
  have d3 : DV K (upd H2 p3 (.lst [.str "gap", .ref p2])) (.ref p3) (.list [.str "gap", .tuple [.int 1, .int 2]]) := .lst (SqL.of upd_same) (.cons (.str _) (.cons (d2.keep (u3)) .nil))
  have l3 : (upd H2 p3 (.lst [.str "gap", .ref p2])) p3 = some (.lst [.str "gap", .ref p2]) := upd_same
  generalize upd H2 p3 (.lst [.str "gap", .ref p2]) = H3 at u3 d3 l3 ⊢
  refine ⟨(by show 2 ≤ sizeLine; decide), fun p4 hp4 => ?_⟩
  have u4 := same_new hp4 (.tup [.int 2, .int 4])
  have d4 : DV K (upd H3 p4 (.tup [.int 2, .int 4])) (.ref p4) (.tuple [.int 2, .int 4]) := .tup (SqT.of upd_same) (.cons (.int _) (.cons (.int _) .nil))
  generalize upd H3 p4 (.tup [.int 2, .int 4]) = H4 at u4 d4 ⊢
  refine ⟨(by show 2 ≤ sizeLine; decide), fun p5 hp5 => ?_⟩
  have u5 := same_new hp5 (.tup [.str "gap", .ref p4])
  have d5 : DV K (upd H4 p5 (.tup [.str "gap", .ref p4])) (.ref p5) (.tuple [.str "gap", .tuple [.int 2, .int 4]]) := .tup (SqT.of upd_same) (.cons (.str _) (.cons (d4.keep (u5)) .nil))
  generalize upd H4 p5 (.tup [.str "gap", .ref p4]) = H5 at u5 d5 ⊢
  refine ⟨(by show 2 ≤ sizeLine; decide), fun p6 hp6 => ?_⟩
  have u6 := same_new hp6 (.tup [.int 1, .int 1])
  have d6 : DV K (upd H5 p6 (.tup [.int 1, .int 1])) (.ref p6) (.tuple [.int 1, .int 1]) := .tup (SqT.of upd_same) (.cons (.int _) (.cons (.int _) .nil))
  generalize upd H5 p6 (.tup [.int 1, .int 1]) = H6 at u6 d6 ⊢
  refine ⟨(by show 2 ≤ sizeLine; decide), fun p7 hp7 => ?_⟩
  have u7 := same_new hp7 (.tup [.int 0, .int 1])
  have d7 : DV K (upd H6 p7 (.tup [.int 0, .int 1])) (.ref p7) (.tuple [.int 0, .int 1]) := .tup (SqT.of upd_same) (.cons (.int _) (.cons (.int _) .nil))
  generalize upd H6 p7 (.tup [.int 0, .int 1]) = H7 at u7 d7 ⊢
  refine ⟨(by show 3 ≤ sizeLine; decide), fun p8 hp8 => ?_⟩
  have u8 := same_new hp8 (.tup [.str "stop", .ref p6, .ref p7])
  have d8 : DV K (upd H7 p8 (.tup [.str "stop", .ref p6, .ref p7])) (.ref p8) (.tuple [.str "stop", .tuple [.int 1, .int 1], .tuple [.int 0, .int 1]]) := .tup (SqT.of upd_same) (.cons (.str _) (.cons (d6.keep (u7.trans (u8))) (.cons (d7.keep (u8)) .nil)))
  generalize upd H7 p8 (.tup [.str "stop", .ref p6, .ref p7]) = H8 at u8 d8 ⊢
  refine ⟨(by show 7 ≤ sizeLine; decide), fun p9 hp9 => ?_⟩
  have u9 := same_new hp9 (.lst [.non, .ref p1, .ref p3, .ref p5, .ref p8, .str "gap 1", .int 5])
  have d9 : DV K (upd H8 p9 (.lst [.non, .ref p1, .ref p3, .ref p5, .ref p8, .str "gap 1", .int 5])) (.ref p9) (.list [.none, .tuple [.str "gap"], .list [.str "gap", .tuple [.int 1, .int 2]], .tuple [.str "gap", .tuple [.int 2, .int 4]], .tuple [.str "stop", .tuple [.int 1, .int 1], .tuple [.int 0, .int 1]], .str "gap 1", .int 5]) := .lst (SqL.of upd_same) (.cons .non (.cons (d1.keep (u2.trans (u3.trans (u4.trans (u5.trans (u6.trans (u7.trans (u8.trans (u9))))))))) (.cons (d3.keep (u4.trans (u5.trans (u6.trans (u7.trans (u8.trans (u9))))))) (.cons (d5.keep (u6.trans (u7.trans (u8.trans (u9))))) (.cons (d8.keep (u9)) (.cons (.str _) (.cons (.int _) .nil)))))))
  have l9 : (upd H8 p9 (.lst [.non, .ref p1, .ref p3, .ref p5, .ref p8, .str "gap 1", .int 5])) p9 = some (.lst [.non, .ref p1, .ref p3, .ref p5, .ref p8, .str "gap 1", .int 5]) := upd_same
  generalize upd H8 p9 (.lst [.non, .ref p1, .ref p3, .ref p5, .ref p8, .str "gap 1", .int 5]) = H9 at u9 d9 l9 ⊢
  have odds : DVs K H9 [.non, .ref p1, .ref p3, .ref p5, .ref p8, .str "gap 1", .int 5] [.none, .tuple [.str "gap"], .list [.str "gap", .tuple [.int 1, .int 2]], .tuple [.str "gap", .tuple [.int 2, .int 4]], .tuple [.str "stop", .tuple [.int 1, .int 1], .tuple [.int 0, .int 1]], .str "gap 1", .int 5] := (.cons .non (.cons (d1.keep (u2.trans (u3.trans (u4.trans (u5.trans (u6.trans (u7.trans (u8.trans (u9))))))))) (.cons (d3.keep (u4.trans (u5.trans (u6.trans (u7.trans (u8.trans (u9))))))) (.cons (d5.keep (u6.trans (u7.trans (u8.trans (u9))))) (.cons (d8.keep (u9)) (.cons (.str _) (.cons (.int _) .nil)))))))
  obtain ⟨ov, hov, hmo⟩ := atI_in (xs := [(.non : V), .ref p1, .ref p3, .ref p5, .ref p8, .str "gap 1", .int 5]) (r := z % 7) (by omega) (by simp only [List.length_cons, List.length_nil]; omega)
  refine ⟨_, rfl, _, _, rfl, rfl, (by show (0 : Int) < 7; decide), p9, _, _, ov, rfl, rfl, SqL.of l9, hov, ?_⟩
  obtain ⟨oi, hoi⟩ := List.getElem?_of_mem hmo
  obtain ⟨od, hod, hox⟩ := odds.get hoi
  have odb : OddB od := by
    have hod := List.mem_of_getElem? hod
    simp only [List.mem_cons, List.not_mem_nil, or_false] at hod
    rcases hod with rfl | rfl | rfl | rfl | rfl | rfl | rfl <;> exact ⟨by decide +kernel, smP_b (by decide +kernel)⟩
  have hpl : xs.length = ps.length := by have h := hxs.len; rw [List.length_map] at h; exact h
  have tall : Same H0 H9 := (u1.trans (u2.trans (u3.trans (u4.trans (u5.trans (u6.trans (u7.trans (u8.trans (u9)))))))))
  have hlb := tall _ _ hlb
  have hxs := hxs.keep tall
  clear hod hmo hov hoi odds d1 u1 d2 u2 d3 u3 d4 u4 d5 u5 d6 u6 d7 u7 d8 u8 d9 u9
  refine ⟨_, rfl, _, _, rfl, rfl, ⟨by decide, by decide⟩, _, _, rfl, rfl, (by show (0 : Int) < 3; decide), rfl, _, rfl, ite2 (fun _ => ?_) (fun _ => ?_)⟩
  · refine ⟨_, rfl, lb, _, rfl, .inl ⟨SqL.of hlb, fun p1' hp1' => ?_⟩⟩
    have v1 := same_new hp1' (.tup xs)
    have m1 : DV K (upd H9 p1' (.tup xs)) (.ref p1') (.tuple (ps.map pcD)) := .tup (SqT.of upd_same) (hxs.keep v1)
    generalize upd H9 p1' (.tup xs) = J0 at v1 m1 ⊢
    refine ⟨(by show 2 ≤ sizeLine; decide), fun q1 hq1 => ?_⟩
    have y1 := same_new hq1 (.tup [.int 1, .int 1])
    have e1 : DV K (upd J0 q1 (.tup [.int 1, .int 1])) (.ref q1) (.tuple [.int 1, .int 1]) := .tup (SqT.of upd_same) (.cons (.int _) (.cons (.int _) .nil))
    generalize upd J0 q1 (.tup [.int 1, .int 1]) = J1 at y1 e1 ⊢
    refine ⟨(by show 2 ≤ sizeLine; decide), fun q2 hq2 => ?_⟩
    have y2 := same_new hq2 (.tup [.str "gap", .ref q1])
    have e2 : DV K (upd J1 q2 (.tup [.str "gap", .ref q1])) (.ref q2) (.tuple [.str "gap", .tuple [.int 1, .int 1]]) := .tup (SqT.of upd_same) (.cons (.str _) (.cons (e1.keep (y2)) .nil))
    generalize upd J1 q2 (.tup [.str "gap", .ref q1]) = J2 at y2 e2 ⊢
    refine ⟨(by show 1 ≤ sizeLine; decide), fun q3 hq3 => ?_⟩
    have y3 := same_new hq3 (.lst [.ref q2])
    have e3 : DV K (upd J2 q3 (.lst [.ref q2])) (.ref q3) (.list [.tuple [.str "gap", .tuple [.int 1, .int 1]]]) := .lst (SqL.of upd_same) (.cons (e2.keep (y3)) .nil)
    have j3 : (upd J2 q3 (.lst [.ref q2])) q3 = some (.lst [.ref q2]) := upd_same
    generalize upd J2 q3 (.lst [.ref q2]) = J3 at y3 e3 j3 ⊢
    refine ⟨q3, 61, [.ref q2], rfl, rfl, (Same.refl _) _ _ j3, (by decide), (by decide), (by show 1 * 61 ≤ sizeLine; decide), fun q4 hq4 => ?_⟩
    have y4 := same_new hq4 (.lst (List.replicate (Int.toNat 61) [.ref q2]).flatten)
    have e4 : DV K (upd J3 q4 (.lst (List.replicate (Int.toNat 61) [.ref q2]).flatten)) (.ref q4) (.list (List.replicate 61 (.tuple [.str "gap", .tuple [.int 1, .int 1]]))) := .lst (SqL.of (by rw [upd_same, rep_flat1]; rfl)) (dvs_repl (e2.keep (y3.trans (y4))) _)
    generalize upd J3 q4 (.lst (List.replicate (Int.toNat 61) [.ref q2]).flatten) = J4 at y4 e4 ⊢
    refine fun q5 hq5 => ?_
    have y5 := same_new hq5 (.dK [])
    have e5 : DV K (upd J4 q5 (.dK [])) (.ref q5) (.dict []) := .dct upd_same
    generalize upd J4 q5 (.dK []) = J5 at y5 e5 ⊢
    have x0 := (y1.trans (y2.trans (y3.trans (y4.trans (y5)))))
    have e3 := e4.keep (y5)
    have m1 := m1.keep x0
    refine ⟨(by show 5 ≤ sizeLine; decide), fun q9 hq9 => ?_⟩
    have y9 := same_new hq9 (.lst [.ref p1', .non, .str "gap 1", .ref q4, .ref q5])
    have l9 : (upd J5 q9 (.lst [.ref p1', .non, .str "gap 1", .ref q4, .ref q5])) q9 = some (.lst [.ref p1', .non, .str "gap 1", .ref q4, .ref q5]) := upd_same
    have all5 : DVs K (upd J5 q9 (.lst [.ref p1', .non, .str "gap 1", .ref q4, .ref q5])) [.ref p1', .non, .str "gap 1", .ref q4, .ref q5] [.tuple (ps.map pcD), .none, .str "gap 1", .list (List.replicate 61 (.tuple [.str "gap", .tuple [.int 1, .int 1]])), .dict []] := .cons (m1.keep y9) (.cons .non (.cons (.str _) (.cons (e3.keep y9) (.cons (e5.keep y9) .nil))))
    have w6 := tall.trans (v1.trans (x0.trans y9))
    generalize upd J5 q9 (.lst [.ref p1', .non, .str "gap 1", .ref q4, .ref q5]) = G6 at l9 all5 w6 ⊢
    obtain ⟨o2, ho2, hm2⟩ := atI_in (xs := [(.ref p1' : V), .non, .str "gap 1", .ref q4, .ref q5]) (r := z / 210 % 5) (by omega) (by simp only [List.length_cons, List.length_nil]; omega)
    obtain ⟨i2, hi2⟩ := List.getElem?_of_mem hm2
    obtain ⟨d2, hd2, hx2⟩ := all5.get hi2
    have rb : RefB d2 none := by
      have hd2 := List.mem_of_getElem? hd2
      simp only [List.mem_cons, List.not_mem_nil, or_false] at hd2
      rcases hd2 with rfl | rfl | rfl | rfl | rfl
      · exact .inl ⟨.inl rfl, rfl⟩
      · exact .inl ⟨.inl rfl, rfl⟩
      · exact .inl ⟨.inl rfl, rfl⟩
      · exact .inl ⟨.inr ⟨_, rfl, by rw [List.length_replicate]; decide⟩, rfl⟩
      · exact .inl ⟨.inl rfl, rfl⟩
    refine ⟨_, rfl, _, _, rfl, rfl, ⟨by decide, by decide⟩, _, _, rfl, rfl, (by show (0 : Int) < 5; decide), q9, _, _, o2, rfl, rfl, SqL.of l9, ho2, (by show 2 ≤ sizeLine; decide), fun q7 hq7 => ?_⟩
    have y7 := same_new hq7 (.lst [o2, .non])
    exact q q7 o2 _ _ none (w6.trans y7) upd_same (hx2.keep y7) rb
  · refine ⟨_, rfl, _, rfl, _, rfl, lb, _, rfl, SqL.of hlb, fun p1' hp1' => ?_⟩
    have v1 := same_new hp1' (.lst (cutV xs none (some (i : Int))))
    have l1' : (upd H9 p1' (.lst (cutV xs none (some (i : Int))))) p1' = some (.lst (xs.take i)) := by rw [upd_same, cut_take]
    have hlb := v1 _ _ hlb
    have hxs := hxs.keep v1
    have hox := hox.keep v1
    have w1 := tall.trans v1
    generalize upd H9 p1' (.lst (cutV xs none (some (i : Int)))) = G1 at l1' hlb hxs hox w1 ⊢
    refine ⟨_, rfl, (by show 1 ≤ sizeLine; decide), fun p2' hp2' => ?_⟩
    have v2 := same_new hp2' (.lst [ov])
    have l2' : (upd G1 p2' (.lst [ov])) p2' = some (.lst [ov]) := upd_same
    have hox := hox.keep v2
    generalize upd G1 p2' (.lst [ov]) = G2 at v2 l2' hox ⊢
    have lt : (xs.take i).length ≤ 8 := by rw [List.length_take]; omega
    refine ⟨p1', p2', _, _, rfl, rfl, v2 _ _ l1', l2', Nat.le_of_lt (small1000 (by simp only [List.length_append, List.length_cons, List.length_nil]; omega)), fun p3' hp3' => ?_⟩
    have v3 := same_new hp3' (.lst (xs.take i ++ [ov]))
    have l3' : (upd G2 p3' (.lst (xs.take i ++ [ov]))) p3' = some (.lst (xs.take i ++ [ov])) := upd_same
    generalize upd G2 p3' (.lst (xs.take i ++ [ov])) = G3 at v3 l3' ⊢
    have w3 := v2.trans v3
    refine ⟨_, rfl, _, rfl, _, rfl, lb, _, rfl, SqL.of (w3 _ _ hlb), fun p4' hp4' => ?_⟩
    have v4 := same_new hp4' (.lst (cutV xs (some (i : Int)) none))
    have l4' : (upd G3 p4' (.lst (cutV xs (some (i : Int)) none))) p4' = some (.lst (xs.drop i)) := by rw [upd_same, cut_drop]
    generalize upd G3 p4' (.lst (cutV xs (some (i : Int)) none)) = G4 at v4 l4' ⊢
    have ld : (xs.drop i).length ≤ 8 := by rw [List.length_drop]; omega
    refine ⟨p3', p4', _, _, rfl, rfl, v4 _ _ l3', l4', Nat.le_of_lt (small1000 (by simp only [List.length_append, List.length_cons, List.length_nil]; omega)), fun p5' hp5' => ?_⟩
    have v5 := same_new hp5' (.lst (xs.take i ++ [ov] ++ xs.drop i))
    have w5 := w3.trans (v4.trans v5)
    have hbad : DV K (upd G4 p5' (.lst (xs.take i ++ [ov] ++ xs.drop i))) (.ref p5') (.list ((ps.take i).map pcD ++ od :: (ps.drop i).map pcD ++ [])) := by
      refine .lst (SqL.of upd_same) ?_
      have e : (ps.take i).map pcD ++ od :: (ps.drop i).map pcD ++ [] = (ps.take i).map pcD ++ [od] ++ (ps.drop i).map pcD := by simp
      rw [e]
      refine ((DVs.append ?_ (.cons (hox.keep (v3.trans (v4.trans v5))) .nil)).append ?_)
      · rw [List.map_take]; exact (hxs.take i).keep w5
      · rw [List.map_drop]; exact (hxs.drop i).keep w5
    have rbad : RefB (.list ((ps.take i).map pcD ++ od :: (ps.drop i).map pcD ++ [])) (some i) :=
      .inr ⟨_, i, rfl, badAt_mid (m := 18) (by decide) g (by omega) odb (fun e he => nomatch he) (by simp only [List.length_nil]; omega), rfl⟩
    have w5 := w1.trans w5
    generalize upd G4 p5' (.lst (xs.take i ++ [ov] ++ xs.drop i)) = G5 at hbad w5 ⊢
    refine ⟨_, rfl, (by show 2 ≤ sizeLine; decide), fun p6' hp6' => ?_⟩
    have v6 := same_new hp6' (.lst [.ref p5', .int (i : Int)])
    exact q p6' (.ref p5') _ _ (some i) (w5.trans v6) upd_same (hbad.keep v6) rbad
end
end K50
namespace K50
open PySem L2 Lib Fr Op
seal PE PT PW PA PS PSs PG PGs PI PO PIfs
section
variable {P : Program} {w : World} {K : PySem.W.Frag} {mg : Str → Option Value} {base : Heap} {ad : Adr} {c : Bool}
theorem flat_ref {z : Str} (hz : Flat 1 (.list [.str z, .str "value"])) (o : Option Nat) : Flat 2 (.list [.list [.str z, .str "value"], optD o]) := flat_lst (n := 1) fun d hd => by
  simp only [List.mem_cons, List.not_mem_nil, or_false] at hd
  rcases hd with rfl | rfl
  · exact hz
  · exact ⟨(flat_opt o).c, Nat.le_trans (flat_opt o).d (by decide)⟩
theorem fl_bench (o : Option Nat) : Flat 2 (.list [.list [.str "bench", .str "value"], optD o]) := flat_ref ⟨by decide +kernel, by decide⟩ o
theorem fl_box : Flat 2 (.list [.list [.str "box", .str "value"], optD (some 0)]) := flat_ref ⟨by decide +kernel, by decide⟩ _
theorem ok_law (T : Txt K mg ad) {fa : Addr} {fd : FuncData} (F : Fun K "law" "law" s_law fa fd) : FnB P w K mg base true 11 fa fd ["_law_script"] (spLaw K) := by
  have C__law_drawn := c__law_drawn (P := P) (w := w) (base := base) T
  have C__law_wide := c__law_wide (P := P) (w := w) (base := base) T
  have C__law_draw := c__law_draw (P := P) (w := w) (base := base) T
  have C__law_lamp := c__law_lamp (P := P) (w := w) (base := base) T
  have C__law_bad_slants := c__law_bad_slants (P := P) (w := w) (base := base) T
  have C__law_bad_bench := c__law_bad_bench (P := P) (w := w) (base := base) T
  have C__law_tried := c__law_tried (P := P) (w := w) (base := base) T
  refine F.okB sc_law (fun vs H Q E h => ?_) (fun cdv A outer s H vs Q E hr h => ?_)
  · obtain ⟨a, ns, rfl, _⟩ := h; rfl
  obtain ⟨a, ns, rfl, hS, h63, q⟩ := h
  refine ⟨_, (pss_cons (ps_set (i := 1) sc_law.nd rfl (Or.inl rfl) (pe_cB C__law_drawn (hr.mono (by decide)) pass01 (pa_name (pv 0) (pa_const pe_int pa_nil)))) (pss_cons (ps_set (i := 2) sc_law.nd rfl (Or.inl rfl) (pe_cB C__law_wide (hr.mono (by decide)) pass01 (pa_name (pv 1) (pa_call (pe_cB C__law_draw (hr.mono (by decide)) pass01 (pa_name (pv 1) (pa_const pe_int pa_nil))) pa_nil)))) (pss_cons (ps_set (i := 3) sc_law.nd rfl (Or.inl rfl) (pe_cB C__law_lamp (hr.mono (by decide)) pass01 (pa_name (pv 1) pa_nil))) (pss_cons (ps_for PassesOwn.never rfl (pi_list (pe_op op_cat (pe_slice sl_list (pv 0) (po_some pe_int) (po_some pe_int)) (pe_lst (pa_call (pe_callB call_len_seq rfl T.len bt_len (pa_name (pv 0) pa_nil)) pa_nil)))) (pg_name (i := 4) sc_law.nd rfl (by first | exact Or.inl rfl | exact Or.inr rfl)) (pss_cons (ps_set (i := 5) sc_law.nd rfl (Or.inl rfl) (pe_op op_fdiv (pe_op op_mod (pe_op op_mul (pv 4) pe_int) pe_int) pe_int)) (pss_cons (ps_asg (pe_cB C__law_bad_slants (hr.mono (by decide)) pass01 (pa_name (pv 3) (pa_name (pv 5) pa_nil))) (pg_lst (n := 2) rfl (pgs_cons (pg_name (i := 6) sc_law.nd rfl (by first | exact Or.inl rfl | exact Or.inr rfl)) (pgs_cons (pg_name (i := 7) sc_law.nd rfl (by first | exact Or.inl rfl | exact Or.inr rfl)) pgs_nil)))) (pss_cons (ps_asg (pe_cB C__law_bad_bench (hr.mono (by decide)) pass01 (pa_name (pv 2) (pa_bin (pe_op op_fdiv (pv 5) pe_int) pa_nil))) (pg_lst (n := 2) rfl (pgs_cons (pg_name (i := 8) sc_law.nd rfl (by first | exact Or.inl rfl | exact Or.inr rfl)) (pgs_cons (pg_name (i := 9) sc_law.nd rfl (by first | exact Or.inl rfl | exact Or.inr rfl)) pgs_nil)))) (pss_cons (ps_set (i := 10) sc_law.nd rfl (Or.inl rfl) (pe_lst (pa_list (pe_lst (pa_const pe_str (pa_const pe_str pa_nil))) (pa_name (pv 9) pa_nil)))) (pss_cons (ps_for PassesOwn.never rfl (pi_range1 rfl T.range (pa_const pe_int pa_nil)) (pg_name (i := 11) sc_law.nd rfl (by first | exact Or.inl rfl | exact Or.inr rfl)) (pss_cons (ps_if (pt_cmpR (op_neD hr.units) (pe_cB C__law_tried (hr.mono (by decide)) pass01 (pa_name (pv 11) (pa_name (pv 2) (pa_sub (pe_slice sl_tup (pv 3) po_none (po_some pe_int)) (pa_name (pv 6) (pa_name (pv 7) pa_nil)))))) (pe_lst (pa_list (pe_lst (pa_const pe_str (pa_const pe_str pa_nil))) (pa_const pe_int pa_nil))) (nomark _)) (pss_one (ps_ret pe_bl)) pss_nil) (pss_one (ps_if (pt_cmpR (op_neD hr.units) (pe_cB C__law_tried (hr.mono (by decide)) pass01 (pa_name (pv 11) (pa_name (pv 8) (pa_sub (pe_slice sl_tup (pv 3) po_none (po_some pe_int)) (pa_name (pv 6) (pa_name (pv 7) pa_nil)))))) (pv 10) (nomark _)) (pss_one (ps_ret pe_bl)) pss_nil)))) (pss_cons (ps_for PassesOwn.never rfl (pi_range1 rfl T.range (pa_const pe_int pa_nil)) (pg_name (i := 11) sc_law.nd rfl (by first | exact Or.inl rfl | exact Or.inr rfl)) (pss_one (ps_if (pt_cmpR (op_neD hr.units) (pe_cB C__law_tried (hr.mono (by decide)) pass01 (pa_name (pv 11) (pa_name (pv 8) (pa_sub (pe_slice sl_tup (pv 3) po_none (po_some pe_int)) (pa_sub (pe_ix ix_tup (pv 3) pe_int (fun _ _ => rfl)) (pa_sub (pe_ix ix_tup (pv 3) pe_int (fun _ _ => rfl)) pa_nil)))))) (pv 10) (nomark _)) (pss_one (ps_ret pe_bl)) pss_nil))) (pss_one (ps_if (pt_cmpR (op_neD hr.units) (pe_cB C__law_tried (hr.mono (by decide)) pass01 (pa_bin (pe_op op_mod (pe_op op_fdiv (pv 5) pe_int) pe_int) (pa_name (pv 2) (pa_sub (pe_slice sl_tup (pv 3) po_none (po_some pe_int)) (pa_sub (pe_ix ix_tup (pv 3) pe_int (fun _ _ => rfl)) (pa_sub (pe_ix ix_tup (pv 3) pe_int (fun _ _ => rfl)) pa_nil)))))) (pe_lst (pa_const pe_non (pa_const pe_int pa_nil))) (nomark _)) (pss_one (ps_ret pe_bl)) pss_nil))))))))) (pss_one (ps_ret pe_bl)))))), ?_⟩
  refine ⟨_, rfl, a, ns, 61, rfl, hS, fun d cc L H1 s1 nd hd => ?_⟩
  refine ⟨_, rfl, _, rfl, d, cc, L, 9, rfl, hd, by decide, fun k H3 k0 k9 hd3 s3 => ?_⟩
  refine ⟨d, cc, L, k, rfl, hd3, k0, by omega, fun lb H4 xs ps hd4 s4 nlb hlb hxs g h8 => ?_⟩
  have nbd : lb ≠ d := fun e => by
    obtain ⟨da, dn, _, hdd⟩ := hd3.d
    rw [← e, nlb] at hdd; cases hdd
  refine ⟨_, rfl, d, cc, L, rfl, hd4, fun lv H5 x hd5 s5 hlv lp => ?_⟩
  have hlb := s5 lb _ nbd hlb
  have hxs : DVs K H5 xs (ps.map pcD) := dvs_keepT (hd4.t s5) (noLs_map noL_pc _) hxs
  obtain ⟨la, r1, r2, r3, r4, rfl, hla, k1, k2, k3, k4⟩ := DV.t4 (show DV K H5 lv (.tuple [frD x.h, frD x.s, frD x.f, frD x.l]) from hlv)
  have sAll : Same H H5 := fun b o e => (s3.trans (s4.trans s5)) _ _ (fun z => by rw [z, nd] at e; cases e) (s1 _ _ e)
  have hS := hS.keep sAll
  clear sAll s1 s3 s4 s5 hd hd3 hd4 hd5 nlb nbd nd
  -- the cells
  refine ⟨_, rfl, _, rfl, _, rfl, a, _, rfl, hS, fun p1 hp1 => ?_⟩
  have w1 := same_new hp1 (.lst (cutV (ns.map V.int) (some 1) (some 31)))
  have z1 := cutV_le (ns.map V.int) 1 31
  change (cutV (ns.map V.int) (some 1) (some 31)).length ≤ _ at z1
  have i1 := cut_ints ns (some 1) (some 31)
  generalize cutV (ns.map V.int) (some 1) (some 31) = L1 at w1 z1 i1 ⊢
  refine ⟨_, rfl, a, _, rfl, .inl (hS.keep w1), (by show 1 ≤ sizeLine; decide), fun p2 hp2 => ?_⟩
  generalize hn : (((ns.map V.int).length : Nat) : Int) = nn
  have w2 := same_new hp2 (.lst [.int nn])
  refine ⟨p1, p2, _, _, rfl, rfl, w2 _ _ upd_same, upd_same, Nat.le_of_lt (small1000 (by simp only [List.length_cons, List.length_nil]; omega)), fun p3 hp3 => ⟨p3, rfl, ⟨_, SqL.of upd_same⟩, ?_⟩⟩
  have w3 := same_new hp3 (.lst (L1 ++ [.int nn]))
  have hL : ∀ x ∈ L1 ++ [V.int nn], ∃ z : Int, x = .int z := fun x hx => by
    rcases List.mem_append.mp hx with h | h
    · exact i1 x h
    · exact ⟨nn, List.mem_singleton.mp h⟩
  have hp30 : upd (upd (upd H5 p1 (.lst L1)) p2 (.lst [.int nn])) p3 (.lst (L1 ++ [.int nn])) p3 = some (.lst (L1 ++ [.int nn])) := upd_same
  have wA := w1.trans (w2.trans w3)
  have hlb := wA _ _ hlb
  have hxs := hxs.keep wA
  have hla := hla.keep wA
  have hlv := hlv.keep wA
  have k1 := k1.keep wA
  have k2 := k2.keep wA
  have k3 := k3.keep wA
  have k4 := k4.keep wA
  generalize upd (upd (upd H5 p1 (.lst L1)) p2 (.lst [.int nn])) p3 (.lst (L1 ++ [.int nn])) = H0 at hp30 hlb hxs hla hlv k1 k2 k3 k4 ⊢
  generalize L1 ++ [V.int nn] = LL at hL hp30 ⊢
  clear w1 w2 w3 hS
  have hb : ∀ {H'}, Same H0 H' → DV K H' (.ref lb) (benchD ps) := fun s' => .lst (SqL.of (s' _ _ hlb)) (hxs.keep s')
  refine for_list (K := K) (a := p3) (xs := LL) (fun i σ H' => ∃ (c4 c5 c6 c7 c8 c9 c10 c11 : Option V), σ = [some (.ref a), some (.ref d), some (.ref lb), some (.ref la), c4, c5, c6, c7, c8, c9, c10, c11] ∧ Same H0 H') ⟨_, _, _, _, _, _, _, _, rfl, Same.refl _⟩ ?_ ?_ ?_
  · rintro i σ H' hi ⟨c4, c5, c6, c7, c8, c9, c10, c11, rfl, s'⟩
    exact SqL.of (s' _ _ hp30)
  · rintro i y σ H' hi ⟨c4, c5, c6, c7, c8, c9, c10, c11, rfl, s'⟩
    obtain ⟨z, rfl⟩ := hL y (List.mem_of_getElem? hi)
    refine ⟨_, rfl, _, _, rfl, rfl, .inr ⟨by decide, by decide⟩, _, _, rfl, rfl, (by show (0 : Int) < 2147483647; decide), _, _, rfl, rfl, ⟨by decide, by decide⟩, ?_⟩
    dsimp only
    generalize z * 48271 % 2147483647 / 8 = nm
    refine ⟨_, rfl, _, rfl, .ref la, x, nm, rfl, hlv.keep s', lp, fun l6 fv gv d6 e6 H6 s6 hl6 hf hg bad => ?_⟩
    refine ⟨l6, _, rfl, SqL.of hl6, rfl, fv, _, rfl, _, _, rfl, rfl, ?_⟩
    have t6 := s'.trans s6
    refine ⟨_, rfl, _, rfl, _, _, rfl, rfl, ⟨by decide, by decide⟩, lb, xs, ps, _, rfl, t6 _ _ hlb, hxs.keep t6, g, h8, fun l7 wv H7 d7 o s7 hl7 hwv rb => ?_⟩
    refine ⟨l7, _, rfl, SqL.of hl7, rfl, wv, _, rfl, _, _, rfl, rfl, ?_⟩
    have hf := hf.keep s7
    have hg := hg.keep s7
    have t7 := t6.trans s7
    refine ⟨(by show 2 ≤ sizeLine; decide), fun p8 hp8 => ⟨_, rfl, (by show 2 ≤ sizeLine; decide), fun p9 hp9 => ?_⟩⟩
    have u8 := same_new hp8 (.lst [.str "bench", .str "value"])
    have e8 : DV K (upd H7 p8 (.lst [.str "bench", .str "value"])) (.ref p8) (.list [.str "bench", .str "value"]) := .lst (SqL.of upd_same) (.cons (.str _) (.cons (.str _) .nil))
    generalize upd H7 p8 (.lst [.str "bench", .str "value"]) = H8 at u8 e8 hp9 ⊢
    have u9 := same_new hp9 (.lst [.ref p8, atV o])
    have e9 : DV K (upd H8 p9 (.lst [.ref p8, atV o])) (.ref p9) (.list [.list [.str "bench", .str "value"], optD o]) := .lst (SqL.of upd_same) (.cons (e8.keep u9) (.cons (dv_at o) .nil))
    have u79 := u8.trans u9
    have hf := hf.keep u79
    have hg := hg.keep u79
    have hwv := hwv.keep u79
    have t9 := t7.trans u79
    generalize upd H8 p9 (.lst [.ref p8, atV o]) = H9 at e9 hf hg hwv t9 ⊢
    clear u8 u9 u79 e8 hl6 hl7 s6 s7 t6 t7 s' hp8 hp9
    -- three ways with bad slants
    refine ⟨3, rfl, by decide, by decide, ?_⟩
    refine for_range (lo := 0) (n := 3) (fun i σ H' => ∃ (c11 : Option V), σ = [some (.ref a), some (.ref d), some (.ref lb), some (.ref la), some (.int z), some (.int nm), some fv, some gv, some wv, some (atV o), some (.ref p9), c11] ∧ Same H9 H') ⟨_, rfl, Same.refl _⟩ ?_ ?_
    · rintro i σ H' hi ⟨c11, rfl, s'⟩
      have t' := t9.trans s'
      refine ⟨_, rfl, _, rfl, _, rfl, _, rfl, la, _, rfl, hla.keep t', nw4a _ _ _ _, fun p hp => ?_⟩
      rw [cut4a]
      have u := same_new hp (.tup [r1, r2])
      generalize upd H' p (.tup [r1, r2]) = Ha at u ⊢
      have sa := s'.trans u
      refine ⟨_, rfl, _, rfl, _, _, _, _, _, rfl, .inr (.inl ⟨ps, _, _, by omega, hb (t9.trans sa), hf.keep sa, hg.keep sa, g, h8, bad, fun v1 Hb sb hv1 => ?_⟩)⟩
      refine ⟨(by show 2 ≤ sizeLine; decide), fun p1 hp1 => ⟨(by show 2 ≤ sizeLine; decide), fun p2 hp2 => ?_⟩⟩
      have y1 := same_new hp1 (.lst [.str "box", .str "value"])
      have f1 : DV K (upd Hb p1 (.lst [.str "box", .str "value"])) (.ref p1) (.list [.str "box", .str "value"]) := .lst (SqL.of upd_same) (.cons (.str _) (.cons (.str _) .nil))
      generalize upd Hb p1 (.lst [.str "box", .str "value"]) = Hc at y1 f1 hp2 ⊢
      have y2 := same_new hp2 (.lst [.ref p1, .int 0])
      have f2 : DV K (upd Hc p2 (.lst [.ref p1, .int 0])) (.ref p2) (.list [.list [.str "box", .str "value"], .int 0]) := .lst (SqL.of upd_same) (.cons (f1.keep y2) (.cons (.int _) .nil))
      have v1' := hv1.keep (y1.trans y2)
      have sd := sa.trans (sb.trans (y1.trans y2))
      generalize upd Hc p2 (.lst [.ref p1, .int 0]) = Hd at f2 v1' sd ⊢
      refine ne_same v1' f2 fl_box ⟨_, rfl, iteF ?_⟩
      have t' := t9.trans sd
      refine ⟨_, rfl, _, rfl, _, rfl, _, rfl, la, _, rfl, hla.keep t', nw4a _ _ _ _, fun p3 hp3 => ?_⟩
      rw [cut4a]
      have u3 := same_new hp3 (.tup [r1, r2])
      generalize upd Hd p3 (.tup [r1, r2]) = He at u3 ⊢
      have se := sd.trans u3
      refine ⟨_, rfl, _, rfl, _, _, _, _, _, rfl, .inl ⟨_, _, hwv.keep se, rb, fun v2 Hf sf hv2 => ?_⟩⟩
      refine ⟨_, rfl, ne_same hv2 (e9.keep (se.trans sf)) (fl_bench o) ⟨_, rfl, iteF ?_⟩⟩
      exact ⟨_, rfl, se.trans sf⟩
    rintro σ H' ⟨c11, rfl, s'⟩
    have t' := t9.trans s'
    have hf := hf.keep s'
    have hg := hg.keep s'
    have hwv := hwv.keep s'
    have e9 := e9.keep s'
    clear s' t9
    -- six ways with a bad bench
    refine ⟨6, rfl, by decide, by decide, ?_⟩
    refine for_range (lo := 0) (n := 6) (fun i σ H'' => ∃ (c11 : Option V), σ = [some (.ref a), some (.ref d), some (.ref lb), some (.ref la), some (.int z), some (.int nm), some fv, some gv, some wv, some (atV o), some (.ref p9), c11] ∧ Same H' H'') ⟨_, rfl, Same.refl _⟩ ?_ ?_
    · rintro i σ Hx hi ⟨c11, rfl, sx⟩
      have tx := t'.trans sx
      refine ⟨_, rfl, _, rfl, _, rfl, _, rfl, la, _, rfl, hla.keep tx, nw4a _ _ _ _, fun p hp => ?_⟩
      rw [cut4a]
      have u := same_new hp (.tup [r1, r2])
      generalize upd Hx p (.tup [r1, r2]) = Ha at u ⊢
      have sa := sx.trans u
      have hla' := hla.keep (t'.trans sa)
      refine ⟨_, rfl, la, _, _, _, rfl, rfl, hla', rfl, _, rfl, la, _, _, _, rfl, rfl, hla', rfl, _, _, _, _, _, rfl, .inl ⟨_, _, hwv.keep sa, rb, fun v2 Hf sf hv2 => ?_⟩⟩
      refine ⟨_, rfl, ne_same hv2 (e9.keep (sa.trans sf)) (fl_bench o) ⟨_, rfl, iteF ?_⟩⟩
      exact ⟨_, rfl, sa.trans sf⟩
    rintro σ Hx ⟨c11, rfl, sx⟩
    have tx := t'.trans sx
    -- good
    refine ⟨_, rfl, _, _, rfl, rfl, ⟨by decide, by decide⟩, _, _, rfl, rfl, (by show (0 : Int) < 6; decide), _, rfl, _, rfl, _, rfl, la, _, rfl, hla.keep tx, nw4a _ _ _ _, fun p hp => ?_⟩
    rw [cut4a]
    have u := same_new hp (.tup [r1, r2])
    have dp : DV K (upd Hx p (.tup [r1, r2])) (.ref p) (pairD x.h x.s) := DV.upd2 hp (k1.keep tx) (k2.keep tx)
    generalize upd Hx p (.tup [r1, r2]) = Ha at u dp ⊢
    have ta := tx.trans u
    have hla' := hla.keep ta
    refine ⟨_, rfl, la, _, _, _, rfl, rfl, hla', rfl, _, rfl, la, _, _, _, rfl, rfl, hla', rfl, _, _, _, _, _, rfl, .inr (.inr ⟨ps, x, hb ta, dp, k3.keep ta, k4.keep ta, g, h8, lp, fun v1 Hb sb hv1 => ?_⟩)⟩
    refine ⟨(by show 2 ≤ sizeLine; decide), fun p2 hp2 => ?_⟩
    have y2 := same_new hp2 (.lst [.non, .int 0])
    have f2 : DV K (upd Hb p2 (.lst [.non, .int 0])) (.ref p2) (.list [.none, .int 0]) := .lst (SqL.of upd_same) (.cons .non (.cons (.int _) .nil))
    refine ne_same (hv1.keep y2) f2 (⟨by decide +kernel, by decide⟩ : Flat 1 _) ⟨_, rfl, iteF ?_⟩
    exact ⟨_, _, _, _, _, _, _, _, rfl, ta.trans (sb.trans y2)⟩
  · rintro σ H' ⟨c4, c5, c6, c7, c8, c9, c10, c11, rfl, s'⟩
    exact q _
theorem law_fd {fa : Addr} (F : TopFn K mg "law" s_law) (hmg : mg "law" = some (.ref fa)) : ∃ fd, Fun K "law" "law" s_law fa fd ∧ ∀ (s : Shared) (u : Value), BindsTo s fd ⟨[u], []⟩ [("_law_script", u)] := by
  obtain ⟨f, fd, F, hm⟩ := F.ex
  cases hmg.symm.trans hm
  obtain ⟨oc, od, kV, doc, pm, an, cdv, ct, osl, rfl, l, c⟩ := id F.ex
  exact ⟨_, F, fun s u => .of_eq rfl⟩
end
end K50
namespace K50
open PySem L2 Lib
theorem walk {l : PySem.W.OpenLaw} {q : Program} {loose : List Str} {XP : (Str → Option Value) → Heap → Prop} {YP : World → Heap → Prop} {d : DefRec} {K : Params → PySem.W.Frag} (hn : l.most = some 63) (hdf : d.params.defaults = [])
    (hY : ∀ (w : World) (h : Heap), YP w h → (K w.params).In h)
    (F : ∀ (w : World) (mg : Str → Option Value) (fa : Addr) (h : Heap), (K w.params).In h → h.Ns mainGlobals mg → mg d.name = some (.ref fa) →
      ∃ fd : FuncData, (∀ (s : Shared) (u : Value), BindsTo s fd ⟨[u], []⟩ [("_law_script", u)]) ∧ ∀ base : Heap, (K w.params).In base → base.Ns mainGlobals mg → FnOk l.prog w (K w.params) mg base (CX1 l.prog w) 11 fa fd ["_law_script"] (spLaw (K w.params))) :
    PySem.W.WalkO q loose XP YP l.row.toRowW d [] (fun f vs => PySem.call f vs) :=
  L2.walk_of (n := 63) (k := 11) (x := "_law_script") (CX := fun w => CX1 l.prog w) (sp := fun w => spLaw (K w.params)) hn (by decide) hdf ⟨rfl, by decide, by decide⟩ hY F (fun _ _ a ns hl _ hS => ⟨a, ns, rfl, hS, hl, fun _ => rfl⟩) fun _ _ _ _ _ z => by
    obtain ⟨_, _, _, _, _, _, _, _, _, _, _, _, q⟩ := z
    exact q
end K50
def PySem.W.Fast.tw2650845495502842098 : Unit := ()
def PySem.W.Fast.tw11247391222788641304 : Unit := ()
def PySem.W.Fast.tw15213500814326764319 : Unit := ()
def PySem.W.Fast.tw6302338559789050058 : Unit := ()
def PySem.W.Fast.tw8322282403520278009 : Unit := ()
def PySem.W.Fast.tw17298615341181546829 : Unit := ()
def PySem.W.Fast.tw2843558796896485051 : Unit := ()
def PySem.W.Fast.tw5963364164016555243 : Unit := ()
def PySem.W.Fast.tw18075541233907269561 : Unit := ()
def PySem.W.Fast.tw17854270422629307175 : Unit := ()
def PySem.W.Fast.tw14635635436934173059 : Unit := ()
def PySem.W.Fast.tw11148397006508572063 : Unit := ()
def PySem.W.Fast.tw9358901257343966138 : Unit := ()
def PySem.W.Fast.tw7722354370829376981 : Unit := ()
def PySem.W.Fast.tw8110148607093377001 : Unit := ()
def PySem.W.Fast.tw12239630527894007955 : Unit := ()
def PySem.W.Fast.tw17640175777228158664 : Unit := ()
def PySem.W.Fast.tw6042295752688175815 : Unit := ()
def PySem.W.Fast.tw825082930197108482 : Unit := ()
def PySem.W.Fast.tw9183449192788526183 : Unit := ()
def PySem.W.Fast.tw5739958863731835961 : Unit := ()
def PySem.W.Fast.tw4527031888229702126 : Unit := ()
def PySem.W.Fast.tw3740842488473457570 : Unit := ()
def PySem.W.Fast.tw17726758368898004183 : Unit := ()
def PySem.W.Fast.tw17657856921932709793 : Unit := ()
def PySem.W.Fast.tw18140619684441033380 : Unit := ()
def PySem.W.Fast.tw9431094692180490295 : Unit := ()
def PySem.W.Fast.tw1356080208047302698 : Unit := ()
def PySem.W.Fast.tw5450765173334589691 : Unit := ()
def PySem.W.Fast.tw14959765722658459560 : Unit := ()
def PySem.W.Fast.tw7326998201371463183 : Unit := ()
def PySem.W.Fast.tw99977742438627397 : Unit := ()
def PySem.W.Fast.tw12123912722517913464 : Unit := ()
def PySem.W.Fast.tw1184003914400143955 : Unit := ()
def PySem.W.Fast.tw13668400055154304504 : Unit := ()
def PySem.W.Fast.tw16708433140412238314 : Unit := ()
def PySem.W.Fast.tw15521522173169629850 : Unit := ()
def PySem.W.Fast.tw14999270350874111475 : Unit := ()
def PySem.W.Fast.tw4225685374160159743 : Unit := ()
def PySem.W.Fast.tw6826982025472031353 : Unit := ()
def PySem.W.Fast.tw11075886489300486295 : Unit := ()
def PySem.W.Fast.tw8476492598570195102 : Unit := ()
def PySem.W.Fast.tw13326081918930261094 : Unit := ()
def PySem.W.Fast.tw1974419584607123068 : Unit := ()
def PySem.W.Fast.tw8040606451323552164 : Unit := ()
def PySem.W.Fast.tw4340984623309565153 : Unit := ()
def PySem.W.Fast.tw9745164991939086543 : Unit := ()
def PySem.W.Fast.tw3921219790274407119 : Unit := ()
def PySem.W.Fast.tw9425757107444716544 : Unit := ()
def PySem.W.Fast.tw1861921928742930001 : Unit := ()
def PySem.W.Fast.tw3351551664731515793 : Unit := ()
def PySem.W.Fast.tw9518377637630222489 : Unit := ()
def PySem.W.Fast.tw4083402111278818668 : Unit := ()
def PySem.W.Fast.tw1807773277587736773 : Unit := ()
def PySem.W.Fast.tw17585559441541638715 : Unit := ()
def PySem.W.Fast.tw16321614773464223965 : Unit := ()
def PySem.W.Fast.tw16123983599565846146 : Unit := ()
def PySem.W.Fast.tw1288125562239034479 : Unit := ()
def PySem.W.Fast.tw5507293880406211206 : Unit := ()
open PySem PySem.W PyProof.Rows
set_option maxRecDepth 100000 in
set_option maxHeartbeats 0 in
theorem PySem.Challenge.cw_grindbench_k50_slants_refused_holds : PySem.Challenge.rw_grindbench_k50_slants_refused.Holds := by
  w_on; o_law; k_head; (case hw => w_witness2)
  k_fill
  refine K50.walk (l := PySem.Challenge.rw_grindbench_k50_slants_refused) rfl rfl (fun w h Y => PySem.W.kIn_of Y) ?F
  case F =>
    intro w mg fa h KX G hmg
    have t_is_whole : L2.TopFn (L2.KOf KX) mg "is_whole" K50.s_is_whole := by
      dsimp only [L2.KOf]
      refine' L2.topFn_mk KX G ?a ?l ?c ?k
      (case a => k_is); (case l => k_is); (case c => k_is); (case k => k_is)
    have t_common_divisor : L2.TopFn (L2.KOf KX) mg "common_divisor" K50.s_common_divisor := by
      dsimp only [L2.KOf]
      refine' L2.topFn_mk KX G ?a ?l ?c ?k
      (case a => k_is); (case l => k_is); (case c => k_is); (case k => k_is)
    have t_is_ratio : L2.TopFn (L2.KOf KX) mg "is_ratio" K50.s_is_ratio := by
      dsimp only [L2.KOf]
      refine' L2.topFn_mk KX G ?a ?l ?c ?k
      (case a => k_is); (case l => k_is); (case c => k_is); (case k => k_is)
    have t_ratio_of : L2.TopFn (L2.KOf KX) mg "ratio_of" K50.s_ratio_of := by
      dsimp only [L2.KOf]
      refine' L2.topFn_mk KX G ?a ?l ?c ?k
      (case a => k_is); (case l => k_is); (case c => k_is); (case k => k_is)
    have t_sum_of : L2.TopFn (L2.KOf KX) mg "sum_of" K50.s_sum_of := by
      dsimp only [L2.KOf]
      refine' L2.topFn_mk KX G ?a ?l ?c ?k
      (case a => k_is); (case l => k_is); (case c => k_is); (case k => k_is)
    have t_less_by : L2.TopFn (L2.KOf KX) mg "less_by" K50.s_less_by := by
      dsimp only [L2.KOf]
      refine' L2.topFn_mk KX G ?a ?l ?c ?k
      (case a => k_is); (case l => k_is); (case c => k_is); (case k => k_is)
    have t_product_of : L2.TopFn (L2.KOf KX) mg "product_of" K50.s_product_of := by
      dsimp only [L2.KOf]
      refine' L2.topFn_mk KX G ?a ?l ?c ?k
      (case a => k_is); (case l => k_is); (case c => k_is); (case k => k_is)
    have t_quotient_of : L2.TopFn (L2.KOf KX) mg "quotient_of" K50.s_quotient_of := by
      dsimp only [L2.KOf]
      refine' L2.topFn_mk KX G ?a ?l ?c ?k
      (case a => k_is); (case l => k_is); (case c => k_is); (case k => k_is)
    have t_is_less : L2.TopFn (L2.KOf KX) mg "is_less" K50.s_is_less := by
      dsimp only [L2.KOf]
      refine' L2.topFn_mk KX G ?a ?l ?c ?k
      (case a => k_is); (case l => k_is); (case c => k_is); (case k => k_is)
    have t_is_stretch : L2.TopFn (L2.KOf KX) mg "is_stretch" K50.s_is_stretch := by
      dsimp only [L2.KOf]
      refine' L2.topFn_mk KX G ?a ?l ?c ?k
      (case a => k_is); (case l => k_is); (case c => k_is); (case k => k_is)
    have t_look_at_stretch : L2.TopFn (L2.KOf KX) mg "look_at_stretch" K50.s_look_at_stretch := by
      dsimp only [L2.KOf]
      refine' L2.topFn_mk KX G ?a ?l ?c ?k
      (case a => k_is); (case l => k_is); (case c => k_is); (case k => k_is)
    have t_is_piece : L2.TopFn (L2.KOf KX) mg "is_piece" K50.s_is_piece := by
      dsimp only [L2.KOf]
      refine' L2.topFn_mk KX G ?a ?l ?c ?k
      (case a => k_is); (case l => k_is); (case c => k_is); (case k => k_is)
    have t_piece_of : L2.TopFn (L2.KOf KX) mg "piece_of" K50.s_piece_of := by
      dsimp only [L2.KOf]
      refine' L2.topFn_mk KX G ?a ?l ?c ?k
      (case a => k_is); (case l => k_is); (case c => k_is); (case k => k_is)
    have t_look_at : L2.TopFn (L2.KOf KX) mg "look_at" K50.s_look_at := by
      dsimp only [L2.KOf]
      refine' L2.topFn_mk KX G ?a ?l ?c ?k
      (case a => k_is); (case l => k_is); (case c => k_is); (case k => k_is)
    have t_is_table : L2.TopFn (L2.KOf KX) mg "is_table" K50.s_is_table := by
      dsimp only [L2.KOf]
      refine' L2.topFn_mk KX G ?a ?l ?c ?k
      (case a => k_is); (case l => k_is); (case c => k_is); (case k => k_is)
    have t_look_at_table : L2.TopFn (L2.KOf KX) mg "look_at_table" K50.s_look_at_table := by
      dsimp only [L2.KOf]
      refine' L2.topFn_mk KX G ?a ?l ?c ?k
      (case a => k_is); (case l => k_is); (case c => k_is); (case k => k_is)
    have t_table_of_rays : L2.TopFn (L2.KOf KX) mg "table_of_rays" K50.s_table_of_rays := by
      dsimp only [L2.KOf]
      refine' L2.topFn_mk KX G ?a ?l ?c ?k
      (case a => k_is); (case l => k_is); (case c => k_is); (case k => k_is)
    have t_table_of : L2.TopFn (L2.KOf KX) mg "table_of" K50.s_table_of := by
      dsimp only [L2.KOf]
      refine' L2.topFn_mk KX G ?a ?l ?c ?k
      (case a => k_is); (case l => k_is); (case c => k_is); (case k => k_is)
    have t_made_by : L2.TopFn (L2.KOf KX) mg "made_by" K50.s_made_by := by
      dsimp only [L2.KOf]
      refine' L2.topFn_mk KX G ?a ?l ?c ?k
      (case a => k_is); (case l => k_is); (case c => k_is); (case k => k_is)
    have t_limits_of : L2.TopFn (L2.KOf KX) mg "limits_of" K50.s_limits_of := by
      dsimp only [L2.KOf]
      refine' L2.topFn_mk KX G ?a ?l ?c ?k
      (case a => k_is); (case l => k_is); (case c => k_is); (case k => k_is)
    have t_in_order : L2.TopFn (L2.KOf KX) mg "in_order" K50.s_in_order := by
      dsimp only [L2.KOf]
      refine' L2.topFn_mk KX G ?a ?l ?c ?k
      (case a => k_is); (case l => k_is); (case c => k_is); (case k => k_is)
    have t_lesser_of : L2.TopFn (L2.KOf KX) mg "lesser_of" K50.s_lesser_of := by
      dsimp only [L2.KOf]
      refine' L2.topFn_mk KX G ?a ?l ?c ?k
      (case a => k_is); (case l => k_is); (case c => k_is); (case k => k_is)
    have t_greater_of : L2.TopFn (L2.KOf KX) mg "greater_of" K50.s_greater_of := by
      dsimp only [L2.KOf]
      refine' L2.topFn_mk KX G ?a ?l ?c ?k
      (case a => k_is); (case l => k_is); (case c => k_is); (case k => k_is)
    have t_slants_by : L2.TopFn (L2.KOf KX) mg "slants_by" K50.s_slants_by := by
      dsimp only [L2.KOf]
      refine' L2.topFn_mk KX G ?a ?l ?c ?k
      (case a => k_is); (case l => k_is); (case c => k_is); (case k => k_is)
    have t_slants_of : L2.TopFn (L2.KOf KX) mg "slants_of" K50.s_slants_of := by
      dsimp only [L2.KOf]
      refine' L2.topFn_mk KX G ?a ?l ?c ?k
      (case a => k_is); (case l => k_is); (case c => k_is); (case k => k_is)
    have t_height_at : L2.TopFn (L2.KOf KX) mg "height_at" K50.s_height_at := by
      dsimp only [L2.KOf]
      refine' L2.topFn_mk KX G ?a ?l ?c ?k
      (case a => k_is); (case l => k_is); (case c => k_is); (case k => k_is)
    have t_spots_of : L2.TopFn (L2.KOf KX) mg "spots_of" K50.s_spots_of := by
      dsimp only [L2.KOf]
      refine' L2.topFn_mk KX G ?a ?l ?c ?k
      (case a => k_is); (case l => k_is); (case c => k_is); (case k => k_is)
    have t_blur_of : L2.TopFn (L2.KOf KX) mg "blur_of" K50.s_blur_of := by
      dsimp only [L2.KOf]
      refine' L2.topFn_mk KX G ?a ?l ?c ?k
      (case a => k_is); (case l => k_is); (case c => k_is); (case k => k_is)
    have t_spread_of : L2.TopFn (L2.KOf KX) mg "spread_of" K50.s_spread_of := by
      dsimp only [L2.KOf]
      refine' L2.topFn_mk KX G ?a ?l ?c ?k
      (case a => k_is); (case l => k_is); (case c => k_is); (case k => k_is)
    have t_image_of : L2.TopFn (L2.KOf KX) mg "image_of" K50.s_image_of := by
      dsimp only [L2.KOf]
      refine' L2.topFn_mk KX G ?a ?l ?c ?k
      (case a => k_is); (case l => k_is); (case c => k_is); (case k => k_is)
    have t_sharp_places : L2.TopFn (L2.KOf KX) mg "sharp_places" K50.s_sharp_places := by
      dsimp only [L2.KOf]
      refine' L2.topFn_mk KX G ?a ?l ?c ?k
      (case a => k_is); (case l => k_is); (case c => k_is); (case k => k_is)
    have t_places_in_both : L2.TopFn (L2.KOf KX) mg "places_in_both" K50.s_places_in_both := by
      dsimp only [L2.KOf]
      refine' L2.topFn_mk KX G ?a ?l ?c ?k
      (case a => k_is); (case l => k_is); (case c => k_is); (case k => k_is)
    have t_sharp_for_all : L2.TopFn (L2.KOf KX) mg "sharp_for_all" K50.s_sharp_for_all := by
      dsimp only [L2.KOf]
      refine' L2.topFn_mk KX G ?a ?l ?c ?k
      (case a => k_is); (case l => k_is); (case c => k_is); (case k => k_is)
    have t__law_drawn : L2.TopFn (L2.KOf KX) mg "_law_drawn" K50.s__law_drawn := by
      dsimp only [L2.KOf]
      refine' L2.topFn_mk KX G ?a ?l ?c ?k
      (case a => k_is); (case l => k_is); (case c => k_is); (case k => k_is)
    have t__law_draw : L2.TopFn (L2.KOf KX) mg "_law_draw" K50.s__law_draw := by
      dsimp only [L2.KOf]
      refine' L2.topFn_mk KX G ?a ?l ?c ?k
      (case a => k_is); (case l => k_is); (case c => k_is); (case k => k_is)
    have t__law_low : L2.TopFn (L2.KOf KX) mg "_law_low" K50.s__law_low := by
      dsimp only [L2.KOf]
      refine' L2.topFn_mk KX G ?a ?l ?c ?k
      (case a => k_is); (case l => k_is); (case c => k_is); (case k => k_is)
    have t__law_under : L2.TopFn (L2.KOf KX) mg "_law_under" K50.s__law_under := by
      dsimp only [L2.KOf]
      refine' L2.topFn_mk KX G ?a ?l ?c ?k
      (case a => k_is); (case l => k_is); (case c => k_is); (case k => k_is)
    have t__law_part : L2.TopFn (L2.KOf KX) mg "_law_part" K50.s__law_part := by
      dsimp only [L2.KOf]
      refine' L2.topFn_mk KX G ?a ?l ?c ?k
      (case a => k_is); (case l => k_is); (case c => k_is); (case k => k_is)
    have t__law_piece : L2.TopFn (L2.KOf KX) mg "_law_piece" K50.s__law_piece := by
      dsimp only [L2.KOf]
      refine' L2.topFn_mk KX G ?a ?l ?c ?k
      (case a => k_is); (case l => k_is); (case c => k_is); (case k => k_is)
    have t__law_plus : L2.TopFn (L2.KOf KX) mg "_law_plus" K50.s__law_plus := by
      dsimp only [L2.KOf]
      refine' L2.topFn_mk KX G ?a ?l ?c ?k
      (case a => k_is); (case l => k_is); (case c => k_is); (case k => k_is)
    have t__law_less : L2.TopFn (L2.KOf KX) mg "_law_less" K50.s__law_less := by
      dsimp only [L2.KOf]
      refine' L2.topFn_mk KX G ?a ?l ?c ?k
      (case a => k_is); (case l => k_is); (case c => k_is); (case k => k_is)
    have t__law_lamp : L2.TopFn (L2.KOf KX) mg "_law_lamp" K50.s__law_lamp := by
      dsimp only [L2.KOf]
      refine' L2.topFn_mk KX G ?a ?l ?c ?k
      (case a => k_is); (case l => k_is); (case c => k_is); (case k => k_is)
    have t__law_wide : L2.TopFn (L2.KOf KX) mg "_law_wide" K50.s__law_wide := by
      dsimp only [L2.KOf]
      refine' L2.topFn_mk KX G ?a ?l ?c ?k
      (case a => k_is); (case l => k_is); (case c => k_is); (case k => k_is)
    have t__law_names : L2.TopFn (L2.KOf KX) mg "_law_names" K50.s__law_names := by
      dsimp only [L2.KOf]
      refine' L2.topFn_mk KX G ?a ?l ?c ?k
      (case a => k_is); (case l => k_is); (case c => k_is); (case k => k_is)
    have t__law_tried : L2.TopFn (L2.KOf KX) mg "_law_tried" K50.s__law_tried := by
      dsimp only [L2.KOf]
      refine' L2.topFn_mk KX G ?a ?l ?c ?k
      (case a => k_is); (case l => k_is); (case c => k_is); (case k => k_is)
    have t__law_bad_slants : L2.TopFn (L2.KOf KX) mg "_law_bad_slants" K50.s__law_bad_slants := by
      dsimp only [L2.KOf]
      refine' L2.topFn_mk KX G ?a ?l ?c ?k
      (case a => k_is); (case l => k_is); (case c => k_is); (case k => k_is)
    have t__law_bad_bench : L2.TopFn (L2.KOf KX) mg "_law_bad_bench" K50.s__law_bad_bench := by
      dsimp only [L2.KOf]
      refine' L2.topFn_mk KX G ?a ?l ?c ?k
      (case a => k_is); (case l => k_is); (case c => k_is); (case k => k_is)
    have t_law : L2.TopFn (L2.KOf KX) mg "law" K50.s_law := by
      dsimp only [L2.KOf]
      refine' L2.topFn_mk KX G ?a ?l ?c ?k
      (case a => k_is); (case l => k_is); (case c => k_is); (case k => k_is)
    have z_ValueError : mg "ValueError" = none := by
      refine' PySem.W.mg_none_of KX G ?a
      (case a => k_is)
    have z_abs : mg "abs" = none := by
      refine' PySem.W.mg_none_of KX G ?a
      (case a => k_is)
    have z_all : mg "all" = none := by
      refine' PySem.W.mg_none_of KX G ?a
      (case a => k_is)
    have z_bool : mg "bool" = none := by
      refine' PySem.W.mg_none_of KX G ?a
      (case a => k_is)
    have z_enumerate : mg "enumerate" = none := by
      refine' PySem.W.mg_none_of KX G ?a
      (case a => k_is)
    have z_int : mg "int" = none := by
      refine' PySem.W.mg_none_of KX G ?a
      (case a => k_is)
    have z_isinstance : mg "isinstance" = none := by
      refine' PySem.W.mg_none_of KX G ?a
      (case a => k_is)
    have z_len : mg "len" = none := by
      refine' PySem.W.mg_none_of KX G ?a
      (case a => k_is)
    have z_list : mg "list" = none := by
      refine' PySem.W.mg_none_of KX G ?a
      (case a => k_is)
    have z_range : mg "range" = none := by
      refine' PySem.W.mg_none_of KX G ?a
      (case a => k_is)
    have z_str : mg "str" = none := by
      refine' PySem.W.mg_none_of KX G ?a
      (case a => k_is)
    have z_tuple : mg "tuple" = none := by
      refine' PySem.W.mg_none_of KX G ?a
      (case a => k_is)
    have z_zip : mg "zip" = none := by
      refine' PySem.W.mg_none_of KX G ?a
      (case a => k_is)
    have X0 : ∃ ad, K50.Exc (L2.KOf KX) mg ad := by
      dsimp only [L2.KOf]
      refine' ⟨_, K50.exc_mk KX G ?m_BenchError ?m_NoNumber ?m_NoText ?m_NoTable ?m_NoBox ?m_NoStock ?m_NoWish ?m_NoRow ?m_Unknown ?m_NoBench ?m_Piece ?m_Gap ?m_Glass ?m_Stop ?m_GAP ?m_GLASS ?m_STOP ?m_MOST_PIECES ?m_FROM ?o_NoBox ?x_NoBox_BenchError ?x_NoBench_BenchError ?k_NoBox_NoBench ?k_NoBox_NoBox ?k_NoBox_ValueError ?k_NoBox_NoNumber ?k_NoBox_NoText ?k_NoBox_NoTable ?k_NoBox_NoStock ?k_NoBox_NoWish ?k_NoBox_NoRow ?k_NoBox_Unknown ?k_NoBench_NoBench ?k_NoBench_NoBox ?k_NoBench_ValueError ?k_NoBench_NoNumber ?k_NoBench_NoText ?k_NoBench_NoTable ?k_NoBench_NoStock ?k_NoBench_NoWish ?k_NoBench_NoRow ?k_NoBench_Unknown ?ecl_NoBox ?ega_NoBox ?egt_NoBox ?eha_NoBox ?ehn_NoBox ?eht_NoBox ?ehm_NoBox ?ehb_NoBox ?ecl_NoBench ?ega_NoBench ?egt_NoBench ?eha_NoBench ?ehn_NoBench ?eht_NoBench ?ehm_NoBench ?ehb_NoBench ?pg_Gap ?hd_Gap ?po_Gap ?sa_Gap ?mk_Gap_init ?a_Gap_init ?fn_Gap_init ?kc_Gap_init ?l_Gap_init ?c_Gap_init ?kp_Gap_init ?a_Gap_bent ?fn_Gap_bent ?kp_Gap_bent ?l_Gap_bent ?c_Gap_bent ?n_Gap_length ?pg_Glass ?hd_Glass ?po_Glass ?sa_Glass ?mk_Glass_init ?a_Glass_init ?fn_Glass_init ?kc_Glass_init ?l_Glass_init ?c_Glass_init ?kp_Glass_init ?a_Glass_bent ?fn_Glass_bent ?kp_Glass_bent ?l_Glass_bent ?c_Glass_bent ?n_Glass_strength ?pg_Stop ?hd_Stop ?po_Stop ?sa_Stop ?mk_Stop_init ?a_Stop_init ?fn_Stop_init ?kc_Stop_init ?l_Stop_init ?c_Stop_init ?kp_Stop_init ?a_Stop_bent ?fn_Stop_bent ?kp_Stop_bent ?l_Stop_bent ?c_Stop_bent ?n_Stop_low ?n_Stop_high ?ob_NoBench_init ?o_cb_NoBench_init ?it_NoBench_init ?kp0_NoBench_init ?hm_NoBench_init ?hd_NoBench_init ?fn_NoBench_init ?sa_NoBench_init ?na_NoBench_init ?rd_NoBench_init ?fc_NoBench_init ?sg_NoBench_init ?l_NoBench_init ?c_NoBench_init ?kp_NoBench_init ?m_NOUGHT ?lk_NOUGHT ?m_ONE ?lk_ONE ?m_NOWHERE ?lk_NOWHERE ?m_EVERYWHERE ?lk_EVERYWHERE⟩
      (case m_BenchError => k_is); (case m_NoNumber => k_is); (case m_NoText => k_is); (case m_NoTable => k_is); (case m_NoBox => k_is); (case m_NoStock => k_is); (case m_NoWish => k_is); (case m_NoRow => k_is); (case m_Unknown => k_is); (case m_NoBench => k_is); (case m_Piece => k_is); (case m_Gap => k_is); (case m_Glass => k_is); (case m_Stop => k_is); (case m_GAP => k_is); (case m_GLASS => k_is); (case m_STOP => k_is); (case m_MOST_PIECES => k_is); (case m_FROM => k_is); (case o_NoBox => k_exc); (case x_NoBox_BenchError => kts_exm); (case x_NoBench_BenchError => kts_exm); (case k_NoBox_NoBench => kit_is); (case k_NoBox_NoBox => kit_is); (case k_NoBox_ValueError => kit_is); (case k_NoBox_NoNumber => kit_is); (case k_NoBox_NoText => kit_is); (case k_NoBox_NoTable => kit_is); (case k_NoBox_NoStock => kit_is); (case k_NoBox_NoWish => kit_is); (case k_NoBox_NoRow => kit_is); (case k_NoBox_Unknown => kit_is); (case k_NoBench_NoBench => kit_is); (case k_NoBench_NoBox => kit_is); (case k_NoBench_ValueError => kit_is); (case k_NoBench_NoNumber => kit_is); (case k_NoBench_NoText => kit_is); (case k_NoBench_NoTable => kit_is); (case k_NoBench_NoStock => kit_is); (case k_NoBench_NoWish => kit_is); (case k_NoBench_NoRow => kit_is); (case k_NoBench_Unknown => kit_is); (case ecl_NoBox => k_is); (case ega_NoBox => k_is); (case egt_NoBox => k_is); (case eha_NoBox => k_is); (case ehn_NoBox => k_is); (case eht_NoBox => k_is); (case ehm_NoBox => k_is); (case ehb_NoBox => k_is); (case ecl_NoBench => k_is); (case ega_NoBench => k_is); (case egt_NoBench => k_is); (case eha_NoBench => k_is); (case ehn_NoBench => k_is); (case eht_NoBench => k_is); (case ehm_NoBench => k_is); (case ehb_NoBench => k_is); (case pg_Gap => k_is); (case hd_Gap => k_is); (case po_Gap => k_is); (case sa_Gap => k_is); (case mk_Gap_init => k_is); (case a_Gap_init => k_is); (case fn_Gap_init => k_is); (case kc_Gap_init => k_is); (case l_Gap_init => k_is); (case c_Gap_init => k_is); (case kp_Gap_init => k_is); (case a_Gap_bent => k_is); (case fn_Gap_bent => k_is); (case kp_Gap_bent => k_is); (case l_Gap_bent => k_is); (case c_Gap_bent => k_is); (case n_Gap_length => k_is); (case pg_Glass => k_is); (case hd_Glass => k_is); (case po_Glass => k_is); (case sa_Glass => k_is); (case mk_Glass_init => k_is); (case a_Glass_init => k_is); (case fn_Glass_init => k_is); (case kc_Glass_init => k_is); (case l_Glass_init => k_is); (case c_Glass_init => k_is); (case kp_Glass_init => k_is); (case a_Glass_bent => k_is); (case fn_Glass_bent => k_is); (case kp_Glass_bent => k_is); (case l_Glass_bent => k_is); (case c_Glass_bent => k_is); (case n_Glass_strength => k_is); (case pg_Stop => k_is); (case hd_Stop => k_is); (case po_Stop => k_is); (case sa_Stop => k_is); (case mk_Stop_init => k_is); (case a_Stop_init => k_is); (case fn_Stop_init => k_is); (case kc_Stop_init => k_is); (case l_Stop_init => k_is); (case c_Stop_init => k_is); (case kp_Stop_init => k_is); (case a_Stop_bent => k_is); (case fn_Stop_bent => k_is); (case kp_Stop_bent => k_is); (case l_Stop_bent => k_is); (case c_Stop_bent => k_is); (case n_Stop_low => k_is); (case n_Stop_high => k_is); (case ob_NoBench_init => k_is); (case o_cb_NoBench_init => k_exc); (case it_NoBench_init => k_is); (case kp0_NoBench_init => k_is); (case hm_NoBench_init => k_is); (case hd_NoBench_init => k_is); (case fn_NoBench_init => k_is); (case sa_NoBench_init => k_is); (case na_NoBench_init => k_is); (case rd_NoBench_init => k_is); (case fc_NoBench_init => k_is); (case sg_NoBench_init => k_is); (case l_NoBench_init => k_is); (case c_NoBench_init => k_is); (case kp_NoBench_init => k_is); (case m_NOUGHT => k_is); (case lk_NOUGHT => k_is); (case m_ONE => k_is); (case lk_ONE => k_is); (case m_NOWHERE => k_is); (case lk_NOWHERE => k_is); (case m_EVERYWHERE => k_is); (case lk_EVERYWHERE => k_is)
    obtain ⟨ad, X0⟩ := X0
    obtain ⟨fd, FL, bL⟩ := K50.law_fd t_law hmg
    exact ⟨fd, bL, fun base _ _ => L2.FnB.ok (K50.ok_law ⟨X0, z_ValueError, z_abs, z_all, z_bool, z_enumerate, z_int, z_isinstance, z_len, z_list, z_range, z_str, z_tuple, z_zip, t_is_whole, t_common_divisor, t_is_ratio, t_ratio_of, t_sum_of, t_less_by, t_product_of, t_quotient_of, t_is_less, t_is_stretch, t_look_at_stretch, t_is_piece, t_piece_of, t_look_at, t_is_table, t_look_at_table, t_table_of_rays, t_table_of, t_made_by, t_limits_of, t_in_order, t_lesser_of, t_greater_of, t_slants_by, t_slants_of, t_height_at, t_spots_of, t_blur_of, t_spread_of, t_image_of, t_sharp_places, t_places_in_both, t_sharp_for_all, t__law_drawn, t__law_draw, t__law_low, t__law_under, t__law_part, t__law_piece, t__law_plus, t__law_less, t__law_lamp, t__law_wide, t__law_names, t__law_tried, t__law_bad_slants, t__law_bad_bench⟩ FL)⟩
#print axioms PySem.Challenge.cw_grindbench_k50_slants_refused_holds
