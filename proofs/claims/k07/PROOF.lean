import PyProof.Rows.All
import Wide.All
import OpenK.AllK
import Wide.FinOn
import Lean
import PyProof.EqAt
import PyProof.EqKinds
import PyProof.TupleCall
import PySem.Challenge.RW_grindbench_k07_what_is_a_piece
set_option Elab.async false
set_option linter.all false
set_option maxRecDepth 100000
set_option maxHeartbeats 1000000
namespace L2
open PySem PySem.Spec PyProof.Rows
abbrev Key := Sum Int Str
def keyIs : Key → Value → Bool
  | .inl k, v => Value.isInt k v
  | .inr x, v => Value.isStrOf x v
def keyH (w : World) : Key → Int
  | .inl k => hashInt k
  | .inr x => hashStr w x
theorem keyIs_shape : ∀ {k : Key} {v : Value}, keyIs k v = true → (∃ i t, k = Sum.inl i ∧ v = Value.int i t) ∨ (∃ x t, k = Sum.inr x ∧ v = Value.str x t)
  | .inl i, v, h => by
    obtain ⟨t, e⟩ := Value.isInt_shape (k := i) (v := v) h
    exact .inl ⟨i, t, rfl, e⟩
  | .inr x, v, h => by
    obtain ⟨t, e⟩ := Value.isStrOf_shape (x := x) (v := v) h
    exact .inr ⟨x, t, rfl, e⟩
theorem keyIs_str (x : Str) (t : Tok) : keyIs (.inr x) (.str x t) = true := by simp [keyIs, Value.isStrOf]
theorem key_ll (a b : Int) : decide ((Sum.inl a : Key) = Sum.inl b) = (a == b) := by
  by_cases e : a = b
  · subst e; simp
  · have h : ¬ (Sum.inl a : Key) = Sum.inl b := fun q => e (Sum.inl.inj q)
    rw [decide_eq_false h]
    exact (beq_eq_false_iff_ne.mpr e).symm
theorem key_rr (a b : Str) : decide ((Sum.inr a : Key) = Sum.inr b) = decide (a = b) := by
  by_cases e : a = b
  · subst e; simp
  · have h : ¬ (Sum.inr a : Key) = Sum.inr b := fun q => e (Sum.inr.inj q)
    rw [decide_eq_false h, decide_eq_false e]
theorem key_lr (a : Int) (b : Str) : decide ((Sum.inl a : Key) = Sum.inr b) = false := decide_eq_false (fun q => nomatch q)
theorem key_rl (a : Str) (b : Int) : decide ((Sum.inr a : Key) = Sum.inl b) = false := decide_eq_false (fun q => nomatch q)
def mixKind (prog : Program) (w : World) : PySem.KeyKind prog w Key where
  is := keyIs
  hash := keyH w
  inj := fun v a b ha hb => by
    rcases keyIs_shape ha with ⟨i, t, rfl, rfl⟩ | ⟨x, t, rfl, rfl⟩
    · rcases keyIs_shape hb with ⟨j, u, rfl, e⟩ | ⟨y, u, rfl, e⟩
      · injection e with e1 _; rw [e1]
      · exact nomatch e
    · rcases keyIs_shape hb with ⟨j, u, rfl, e⟩ | ⟨y, u, rfl, e⟩
      · exact nomatch e
      · injection e with e1 _; rw [e1]
  byValue := fun k v h => by
    rcases keyIs_shape h with ⟨i, t, rfl, rfl⟩ | ⟨x, t, rfl, rfl⟩ <;> rfl
  pyHash := fun hv h => by
    rcases keyIs_shape hv with ⟨i, t, rfl, rfl⟩ | ⟨x, t, rfl, rfl⟩
    · exact wpAny_pyHash_int h
    · exact wpAny_pyHash_str h
  eqBool := fun hu hv h => by
    rcases keyIs_shape hu with ⟨i, t, rfl, rfl⟩ | ⟨x, t, rfl, rfl⟩
    · rcases keyIs_shape hv with ⟨j, u, rfl, rfl⟩ | ⟨y, u, rfl, rfl⟩
      · rw [key_ll] at h; exact wpAny_eqBool_int h
      · rw [key_lr] at h; exact SeqAt.EqAt.int_str i t y u _ _ _ _ h
    · rcases keyIs_shape hv with ⟨j, u, rfl, rfl⟩ | ⟨y, u, rfl, rfl⟩
      · rw [key_rl] at h; exact SeqAt.EqAt.str_int x t j u _ _ _ _ h
      · rw [key_rr] at h; exact wpAny_eqBool_str h
  «strs» := fun k x t v h => by
    rcases keyIs_shape h with ⟨i, u, rfl, e⟩ | ⟨y, u, rfl, e⟩
    · exact nomatch e
    · injection e with e1 _
      subst e1
      cases v <;> rfl
theorem mixKind_str (prog : Program) (w : World) (x : Str) (t : Tok) : (mixKind prog w).is (.inr x) (.str x t) = true := keyIs_str x t
end L2
namespace L2
open PySem PySem.Spec PyProof.Rows
inductive V where
  | non | bl (b : Bool) | int (i : Int) | str (x : Str) | byt (b : Array UInt8) | flt (b : UInt64) | ref (a : Addr) | ty (n : String)
  deriving DecidableEq
def RelV : V → Value → Prop
  | .non, u => u = Value.none
  | .bl b, u => u = Value.bool b
  | .int i, u => ∃ t, u = Value.int i t
  | .str x, u => ∃ t, u = Value.str x t
  | .byt b, u => ∃ t, u = Value.bytes b t
  | .flt b, u => ∃ t, u = Value.float b t
  | .ref a, u => u = Value.ref a
  | .ty n, u => u = Value.type n
abbrev Vals : List V → List Value → Prop := Paired RelV
theorem Vals.length {xs : List V} {us : List Value} (r : Vals xs us) : xs.length = us.length := Paired.length r
theorem Vals.get : ∀ {xs : List V} {us : List Value} {i : Nat} {x : V}, Vals xs us → xs[i]? = some x → ∃ u, us[i]? = some u ∧ RelV x u
  | _, _, _, _, .nil, e => by simp at e
  | _, _, 0, _, .cons r _, e => by simp at e; subst e; exact ⟨_, rfl, r⟩
  | _, _, i + 1, x, .cons _ t, e => by
    obtain ⟨u, h1, h2⟩ := Vals.get (i := i) (x := x) t (by simpa using e)
    exact ⟨u, by simpa using h1, h2⟩
theorem Vals.set {x : V} {u : Value} (r : RelV x u) : ∀ {xs : List V} {us : List Value} (i : Nat), Vals xs us → Vals (xs.set i x) (us.set i u)
  | _, _, _, .nil => .nil
  | _, _, 0, .cons _ t => .cons r t
  | _, _, i + 1, .cons q t => .cons q (Vals.set r i t)
theorem Vals.append : ∀ {xs ys : List V} {us ws : List Value}, Vals xs us → Vals ys ws → Vals (xs ++ ys) (us ++ ws)
  | _, _, _, _, .nil, s => s
  | _, _, _, _, .cons r t, s => .cons r (Vals.append t s)
theorem Vals.take : ∀ {xs : List V} {us : List Value} (n : Nat), Vals xs us → Vals (xs.take n) (us.take n)
  | _, _, 0, _ => .nil
  | _, _, _ + 1, .nil => .nil
  | _, _, n + 1, .cons r t => .cons r (Vals.take n t)
theorem Vals.drop : ∀ {xs : List V} {us : List Value} (n : Nat), Vals xs us → Vals (xs.drop n) (us.drop n)
  | _, _, 0, r => r
  | _, _, _ + 1, .nil => .nil
  | _, _, n + 1, .cons _ t => Vals.drop n t
def RelO : Option V → Option Value → Prop
  | some v, some u => RelV v u
  | none, none => True
  | _, _ => False
def KV {κ : Type} : List (κ × V) → List (κ × Value) → Prop := Paired fun (p : κ × V) (q : κ × Value) => p.1 = q.1 ∧ RelV p.2 q.2
def kV : Key → V
  | .inl i => .int i
  | .inr x => .str x
inductive HO where
  /-- a list -/
  | lst (xs : List V)
  /-- a tuple (never changes) -/
  | tup (xs : List V)
  /-- a dict whose keys are ints and texts; one whose keys are tuples of ints and texts (the empty one is both) -/
  | dK (kvs : List (Key × V)) | dT (kvs : List (List Key × V))
  /-- a set of ints: its members, its size -/
  | set (S : Int → Bool) (n : Nat)
  /-- an instance of the class at C, its dict at dx, its attributes -/
  | ins (C dx : Addr) (fs : List (Str × V))
  /-- the dict of the instance at x -/
  | own (x : Addr)
  /-- the dict of an exception -/
  | xd (fs : List (Str × V))
  /-- a bound method, f of x -/
  | met (f x : Addr)
  /-- a range object lo, lo + 1, .. below hi -/
  | rng (lo hi : Int)
  /-- a thing that is known to the object (the script; a dict while a loop walks it): read, never written while it is so -/
  | frz (o : Obj) (u : HO)
  /-- a code object's table -/
  | tbl (ps : Array Value)
  /-- any other thing, by what is true of its one object (a def of one's own: SetO a S n := HO.ext fun h => ..) -/
  | ext (φ : Heap → Prop)
abbrev Hp := Addr → Option HO
def upd (H : Hp) (a : Addr) (o : HO) : Hp := fun b => if b = a then some o else H b
theorem upd_same {H : Hp} {a : Addr} {o : HO} : upd H a o a = some o := by unfold upd; rw [if_pos rfl]
theorem upd_ne {H : Hp} {a b : Addr} {o : HO} (h : b ≠ a) : upd H a o b = H b := by unfold upd; rw [if_neg h]
theorem upd_upd {H : Hp} {a : Addr} {o u : HO} : upd (upd H a o) a u = upd H a u := by
  funext b; unfold upd; split <;> rfl
theorem ne_of_none {H : Hp} {a b : Addr} {o : HO} (h : H a = some o) (h' : H b = none) : a ≠ b := by
  intro e; subst e; rw [h] at h'; cases h'
section
variable (P : Program) (w : World)
def ObjOk (H : Hp) (h : Heap) (a : Addr) : HO → Prop
  | .lst xs => xs.length ≤ sizeLine ∧ ∃ (its : List Value) (n : Nat), Vals xs its ∧ h.get? a = some { cls := .type "list", data := .seq its.toArray n }
  | .tup xs => xs.length ≤ sizeLine ∧ ∃ its : List Value, Vals xs its ∧ IsTup h a its.toArray
  | .dK kvs => kvs.length ≤ sizeLine ∧ (a == sysModules) = false ∧ ∃ vs, KV kvs vs ∧ h.DictOf (mixKind P w) a vs
  | .dT kvs => kvs.length ≤ sizeLine ∧ (a == sysModules) = false ∧ ∃ xs : List (List Key × Addr × Value),
      Paired (fun (p : List Key × V) (q : List Key × Addr × Value) => p.1 = q.1 ∧ H q.2.1 = some (.tup (p.1.map kV)) ∧ RelV p.2 q.2.2) kvs xs ∧
      ∃ o es ep, h.get? a = some o ∧ o.ExactDict ∧ o.data = .dict es ep ∧ es.toList = xs.map (entryOfKey (tupleKind (mixKind P w))) ∧ (xs.map (·.1)).Nodup
  | .set S n => h.SetOf (intKind P w) a S n
  | .ins C dx fs => H dx = some (.own a) ∧ fs.length ≤ 1000 ∧ dx ≠ a ∧ h.get? a = some (PySem.W.instObj C dx) ∧
      ∃ mA, h.Ns1 dx mA ∧ (∀ f, RelO (fs.lookup f) (mA f)) ∧ PySem.Within mA (fs.map (·.1))
  | .own _ => ∃ o, h.get? a = some o
  | .xd fs => ∃ mA, h.Ns1 a mA ∧ ∀ f, RelO (fs.lookup f) (mA f)
  | .rng lo hi => ∃ t u v, h.get? a = some { cls := .type "range", data := .fields #[.int lo t, .int hi u, .int 1 v] }
  | .frz o u => h.get? a = some o ∧ ObjOk H h a u
  | .tbl ps => h.get? a = some { cls := .none, data := .fields ps }
  | .met f x => h.get? a = some (PySem.W.methodObj (.ref f) (.ref x))
  | .ext φ => φ h ∧ (∃ o, h.get? a = some o) ∧ ∀ h1 h2 : Heap, φ h1 → (∀ o, h1.get? a = some o → h2.get? a = some o) → φ h2
def HOk (H : Hp) (h : Heap) : Prop := ∀ a o, H a = some o → ObjOk P w H h a o
end
section
variable {P : Program} {w : World} {H H' : Hp} {h h' : Heap} {a : Addr} {o : HO}
theorem ObjOk.lt (x : ObjOk P w H h a o) : a < h.objs.size := by
  cases o with
  | lst xs => obtain ⟨_, _, _, _, e⟩ := x; exact Heap.lt_size e
  | tup xs => obtain ⟨_, _, _, p⟩ := x; exact p.lt
  | dK kvs => obtain ⟨_, _, _, _, o, _, _, e, _⟩ := x; exact Heap.lt_size e
  | dT kvs => obtain ⟨_, _, _, _, o, _, _, e, _⟩ := x; exact Heap.lt_size e
  | set S n => obtain ⟨o, _, _, _, e, _⟩ := x; exact Heap.lt_size e
  | ins C dx fs => obtain ⟨_, _, _, e, _⟩ := x; exact Heap.lt_size e
  | own y => obtain ⟨_, e⟩ := x; exact Heap.lt_size e
  | xd fs => obtain ⟨_, ⟨_, _, _, e, _⟩, _⟩ := x; exact Heap.lt_size e
  | rng lo hi => obtain ⟨_, _, _, e⟩ := x; exact Heap.lt_size e
  | frz ob u => obtain ⟨e, _⟩ := x; exact Heap.lt_size e
  | tbl ps => exact Heap.lt_size (show h.get? a = some _ from x)
  | met f y => exact Heap.lt_size (show h.get? a = some _ from x)
  | ext φ => obtain ⟨_, ⟨_, e⟩, _⟩ := x; exact Heap.lt_size e
theorem Paired.mapP {α β : Type} {F G : α → β → Prop} : ∀ {l₁ : List α} {l₂ : List β}, Paired F l₁ l₂ → (∀ a b, F a b → G a b) → Paired G l₁ l₂
  | _, _, .nil, _ => .nil
  | _, _, .cons r t, f => .cons (f _ _ r) (Paired.mapP t f)
theorem ObjOk.stay (x : ObjOk P w H h a o) (k : ∀ b u, (b = a ∨ H b = some (.own a)) → h.get? b = some u → h'.get? b = some u)
    (ho : ∀ b, H b = some (.own a) → H' b = some (.own a)) (ht : ∀ b xs, H b = some (.tup xs) → H' b = some (.tup xs)) : ObjOk P w H' h' a o := by
  induction o with
  | lst xs => obtain ⟨z, its, n, r, e⟩ := x; exact ⟨z, its, n, r, k _ _ (.inl rfl) e⟩
  | tup xs => obtain ⟨z, its, r, ob, e, c⟩ := x; exact ⟨z, its, r, ob, k _ _ (.inl rfl) e, c⟩
  | dK kvs => obtain ⟨z, y, vs, r, ob, es, ep, e, c⟩ := x; exact ⟨z, y, vs, r, ob, es, ep, k _ _ (.inl rfl) e, c⟩
  | dT kvs =>
    obtain ⟨z, y, xs, r, ob, es, ep, e, c⟩ := x
    exact ⟨z, y, xs, Paired.mapP r fun p q z => ⟨z.1, ht _ _ z.2.1, z.2.2⟩, ob, es, ep, k _ _ (.inl rfl) e, c⟩
  | set S n => obtain ⟨ob, es, ep, t, e, c⟩ := x; exact ⟨ob, es, ep, t, k _ _ (.inl rfl) e, c⟩
  | ins C dx fs =>
    obtain ⟨d, z, ne, e, mA, ⟨od, es, ep, e2, c⟩, r⟩ := x
    exact ⟨ho _ d, z, ne, k _ _ (.inl rfl) e, mA, ⟨od, es, ep, k _ _ (.inr d) e2, c⟩, r⟩
  | own y => obtain ⟨ob, e⟩ := x; exact ⟨ob, k _ _ (.inl rfl) e⟩
  | xd fs => obtain ⟨mA, ⟨od, es, ep, e, c⟩, r⟩ := x; exact ⟨mA, ⟨od, es, ep, k _ _ (.inl rfl) e, c⟩, r⟩
  | rng lo hi => obtain ⟨t, u, v, e⟩ := x; exact ⟨t, u, v, k _ _ (.inl rfl) e⟩
  | frz ob u ih => obtain ⟨e, q⟩ := x; exact ⟨k _ _ (.inl rfl) e, ih q⟩
  | tbl ps =>
    have e : h.get? a = some { cls := .none, data := .fields ps } := x
    show h'.get? a = some { cls := .none, data := .fields ps }
    exact k a _ (.inl rfl) e
  | met f y =>
    have e : h.get? a = some (PySem.W.methodObj (.ref f) (.ref y)) := x
    show h'.get? a = some (PySem.W.methodObj (.ref f) (.ref y))
    exact k a _ (.inl rfl) e
  | ext φ => obtain ⟨p, ⟨o, e⟩, st⟩ := x; exact ⟨st _ _ p fun o q => k _ _ (.inl rfl) q, ⟨o, k _ _ (.inl rfl) e⟩, st⟩
theorem HOk.lt (x : HOk P w H h) (e : H a = some o) : a < h.objs.size := (x a o e).lt
theorem HOk.fresh (x : HOk P w H h) (e : h.objs.size ≤ a) : H a = none := by
  cases q : H a with
  | none => rfl
  | some u => exact absurd (Nat.lt_of_lt_of_le (x.lt q) e) (Nat.lt_irrefl _)
theorem HOk.kept (x : HOk P w H h) (k : ∀ b u, h.get? b = some u → h'.get? b = some u) : HOk P w H h' := fun a o e =>
  (x a o e).stay (fun b u _ q => k b u q) (fun _ q => q) fun _ _ q => q
theorem HOk.laid (x : HOk P w H h) (k : ∀ b u, h.get? b = some u → h'.get? b = some u) (hp : h.objs.size ≤ a) (new : ObjOk P w (upd H a o) h' a o) : HOk P w (upd H a o) h' := fun b u e => by
  have hn := x.fresh hp
  by_cases hb : b = a
  · subst hb; rw [upd_same] at e; cases e; exact new
  · rw [upd_ne hb] at e
    exact (x b u e).stay (fun c v _ q => k c v q) (fun c q => by rw [upd_ne (ne_of_none q hn)]; exact q) fun c xs q => by rw [upd_ne (ne_of_none q hn)]; exact q
end
def Rd (H : Hp) (a : Addr) (u : HO) : Prop := H a = some u ∨ ∃ o, H a = some (.frz o u)
theorem Rd.ok {P : Program} {w : World} {H : Hp} {h : Heap} {a : Addr} {u : HO} (r : Rd H a u) (x : HOk P w H h) : ObjOk P w H h a u := by
  rcases r with r | ⟨o, r⟩
  · exact x a u r
  · obtain ⟨_, q⟩ := x a _ r
    exact q
def Mut : Option HO → Prop
  | some (.lst _) => True
  | some (.dK _) => True
  | some (.dT _) => True
  | some (.set _ _) => True
  | some (.ins _ _ _) => True
  | some (.ext _) => True
  | _ => False
section
variable {P : Program} {w : World} {H : Hp} {h h' : Heap} {x e : Addr} {o' : HO}
theorem HOk.write (ok : HOk P w H h) (mu : Mut (H x)) (he : e = x ∨ H e = some (.own x)) (k : ∀ b u, b ≠ e → h.get? b = some u → h'.get? b = some u) (heo : ∃ u, h'.get? e = some u)
    (new : ObjOk P w (upd H x o') h' x o') : HOk P w (upd H x o') h' := fun b u q => by
  have nown : ∀ c y, H c = some (.own y) → c ≠ x := fun c y r z => by subst z; rw [r] at mu; exact mu
  have ntup : ∀ c xs, H c = some (.tup xs) → c ≠ x := fun c xs r z => by subst z; rw [r] at mu; exact mu
  by_cases hb : b = x
  · subst hb; rw [upd_same] at q; cases q; exact new
  · rw [upd_ne hb] at q
    by_cases hbe : b = e
    · have q' : H b = some (.own x) := by
        rcases he with z | z
        · exact absurd (hbe.trans z) hb
        · rw [hbe]; exact z
      rw [q] at q'; cases q'
      obtain ⟨v, hv⟩ := heo
      exact ⟨v, by rw [hbe]; exact hv⟩
    · refine (ok b u q).stay (fun c v hc r => k c v ?_ r) (fun c r => by rw [upd_ne (nown c b r)]; exact r) fun c xs r => by rw [upd_ne (ntup c xs r)]; exact r
      rcases hc with rfl | hc
      · exact hbe
      · rintro rfl
        rcases he with z | z
        · exact nown c b hc z
        · rw [hc] at z; cases z; exact hb rfl
end
structure Un (fs ex : List Addr) (H H' : Hp) (h h' : Heap) : Prop where
  keep : ∀ b o, h.get? b = some o → H b = none → b ∉ fs → b ∉ ex → h'.get? b = some o
  slot : ∀ b o, h.get? b = some o → H b = none → b ∈ fs → b ∉ ex → ∃ sl, h'.get? b = some { o with slots := sl }
  free : ∀ b o, h.get? b = some o → H b = none → b ∉ ex → H' b = none
  there : ∀ b o, h.get? b = some o → b ∉ ex → ∃ o', h'.get? b = some o'
  tups : ∀ b xs, H b = some (.tup xs) → H' b = some (.tup xs)
  frzs : ∀ b o u, H b = some (.frz o u) → H' b = some (.frz o u)
  tbls : ∀ b ps, H b = some (.tbl ps) → ∃ more, H' b = some (.tbl (ps ++ more))
section
variable {fs fs' ex ex' : List Addr} {H H1 H2 : Hp} {h h1 h2 h' : Heap} {a x e : Addr} {o : HO}
theorem Un.any (u : Un fs ex H H1 h h1) {b : Addr} {ob : Obj} (q : h.get? b = some ob) (n : H b = none) (hx : b ∉ ex) : ∃ sl, h1.get? b = some { ob with slots := sl } := by
  by_cases hb : b ∈ fs
  · exact u.slot b ob q n hb hx
  · exact ⟨ob.slots, u.keep b ob q n hb hx⟩
theorem Un.kept (k : ∀ b u, h.get? b = some u → h'.get? b = some u) : Un fs ex H H h h' :=
  ⟨fun b ob q _ _ _ => k b ob q, fun b ob q _ _ _ => ⟨ob.slots, k b ob q⟩, fun _ _ _ n _ => n, fun b ob q _ => ⟨ob, k b ob q⟩, fun _ _ q => q, fun _ _ _ q => q, fun _ ps q => ⟨#[], by rw [q]; simp⟩⟩
theorem Un.refl : Un fs ex H H h h := Un.kept fun _ _ q => q
theorem Un.laid (k : ∀ b u, h.get? b = some u → h'.get? b = some u) (hp : h.objs.size ≤ a) (hn : H a = none) : Un fs ex H (upd H a o) h h' where
  keep := fun b u q _ _ _ => k b u q
  slot := fun b u q _ _ _ => ⟨u.slots, k b u q⟩
  free := fun b u q n _ => by rw [upd_ne (Nat.ne_of_lt (Nat.lt_of_lt_of_le (Heap.lt_size q) hp))]; exact n
  there := fun b u q _ => ⟨u, k b u q⟩
  tups := fun b xs q => by rw [upd_ne (ne_of_none q hn)]; exact q
  frzs := fun b u xs q => by rw [upd_ne (ne_of_none q hn)]; exact q
  tbls := fun b ps q => ⟨#[], by rw [upd_ne (ne_of_none q hn), q]; simp⟩
theorem Un.write (mu : Mut (H x)) (he : e = x ∨ H e = some (.own x)) (k : ∀ b u, b ≠ e → h.get? b = some u → h'.get? b = some u) (heo : ∃ u, h'.get? e = some u) : Un fs ex H (upd H x o) h h' := by
  have hx : ∀ b, H b = none → b ≠ x := fun b n z => by subst z; rw [n] at mu; exact mu
  have hb : ∀ b, H b = none → b ≠ e := fun b n z => by
    subst z
    rcases he with r | r
    · exact hx b n r
    · rw [n] at r; cases r
  have hm : ∀ b u, H b = some u → ¬ Mut (some u) → b ≠ x := fun b u q nm z => by subst z; rw [q] at mu; exact nm mu
  refine ⟨fun b u q n _ _ => k b u (hb b n) q, fun b u q n _ _ => ⟨u.slots, k b u (hb b n) q⟩, fun b u q n _ => by rw [upd_ne (hx b n)]; exact n, fun b u q _ => ?_,
    fun b xs q => by rw [upd_ne (hm b _ q fun z => z)]; exact q, fun b u xs q => by rw [upd_ne (hm b _ q fun z => z)]; exact q, fun b ps q => ⟨#[], by rw [upd_ne (hm b _ q fun z => z), q]; simp⟩⟩
  by_cases hbe : b = e
  · subst hbe; exact heo
  · exact ⟨u, k b u hbe q⟩
end
def trk (h : Heap) (H : Hp) : List Addr := (List.range h.objs.size).filter fun a => (H a).isSome
def hidT (h : Heap) (H : Hp) : Heap := PySem.W.hideAll h (trk h H)
theorem hidT_size (h : Heap) (H : Hp) : (hidT h H).objs.size = h.objs.size := PySem.W.hideAll_size _ _
theorem hidT_get {h : Heap} {H : Hp} {b : Addr} {o : Obj} (e : h.get? b = some o) (n : H b = none) : (hidT h H).get? b = some o :=
  PySem.W.hideAll_get _ e fun hm => by
    have q : (H b).isSome = true := (List.mem_filter.mp hm).2
    rw [n] at q; simp at q
theorem of_hidT {h : Heap} {H : Hp} {b : Addr} {o : Obj} (e : (hidT h H).get? b = some o) : h.get? b = some o ∧ H b = none := by
  have e' : h.get? b = some o := PySem.W.of_hideAll (trk h H) e
  refine ⟨e', ?_⟩
  cases q : H b with
  | none => rfl
  | some x =>
    have hm : b ∈ trk h H := List.mem_filter.mpr ⟨List.mem_range.mpr (Heap.lt_size e'), by simp [q]⟩
    have z : (hidT h H).get? b = none := PySem.W.hideAll_none (trk h H) hm
    rw [z] at e; cases e
end L2
namespace L2
open PySem PySem.Spec PyProof.Rows
structure Mod (K : PySem.W.Frag) (mg : Str → Option Value) (base : Heap) : Prop where
  kin : K.In base
  glob : base.Ns mainGlobals mg
  blt : ∃ mb, base.Ns builtinsNs mb ∧ ∀ x : Str, x ≠ "__name__" → mb x = bootBuiltins x
  nolimit : base.NoLimit
structure Cx where
  prog : Program
  w : World
  K : PySem.W.Frag
  mg : Str → Option Value
  base : Heap
  A : Around
  N : List Str
  s₀ : Shared
  H₀ : Hp
  env : Env
  outer : List Env
  stack : List Env
  ex : List Addr
  fn : Str → Bool
  calm : Bool
  pn : List (Addr × Obj)
  xe : Value → Shared → Prop
def frs (l : List Env) : List Addr := l.filterMap (·.frame)
abbrev Cx.fs (X : Cx) : List Addr := frs X.outer
def Vis (sc : Scope) (x : Str) : Prop := sc.names.lookup x = some .local ∨ sc.names.lookup x = some .cell ∨ sc.names.lookup x = some .free
def Loc (sc : Scope) (x : Str) : Prop := sc.names.lookup x = some .local ∨ sc.names.lookup x = some .cell
def Look (env : Env) (h : Heap) (m : Str → Option Value) (x : Str) (u : Value) : Prop :=
  (env.kindOf x = some .local ∧ m x = some u) ∨ ((env.kindOf x = some .cell ∨ env.kindOf x = some .free) ∧ ∃ c, env.cells.lookup x = some c ∧ h.IsCell c (some u))
structure Cx.Ok (X : Cx) : Prop where
  mod : Mod X.K X.mg X.base
  kind : X.env.scope.kind = .function
  glob : X.env.globals = mainGlobals
  blt : X.env.builtins = builtinsNs
  above : X.s₀.heap.objs.size ≤ X.env.locals
  inj : ∀ x y c, X.env.cells.lookup x = some c → X.env.cells.lookup y = some c → x = y
  has : ∀ x, (X.env.kindOf x = some .cell ∨ X.env.kindOf x = some .free) → ∃ c, X.env.cells.lookup x = some c
  cab : ∀ x c, X.fn x = true → X.env.cells.lookup x = some c → X.s₀.heap.objs.size ≤ c
  hd : X.calm = true → X.A.handled = none
  frames : X.A.frames = some X.stack
  stk : X.stack = X.outer ∨ (X.stack = X.env :: X.outer ∧ X.env.frame = some X.env.locals)
  exf : ∀ b ∈ X.ex, b ≠ X.env.locals ∧ ∀ x c, X.env.cells.lookup x = some c → c ≠ b
  bs : ∀ b o, X.base.get? b = some o → X.s₀.heap.get? b = some o ∧ X.H₀ b = none
  bsz : X.base.objs.size ≤ X.s₀.heap.objs.size
  noex : ∀ b o, X.base.get? b = some o → b ∉ X.ex
  exfs : ∀ b ∈ X.ex, b ∉ X.fs
  funs : X.s₀.heap.FunFrames X.base X.outer
  frf : ∀ b ∈ X.fs, X.H₀ b = none
structure Inv (X : Cx) (pins : List (Addr × Obj)) (σ : List (Option V)) (H : Hp) (s : Shared) : Prop where
  ok : X.Ok
  os : s.os = X.s₀.os
  bare : AllBare s.gens
  base : Un X.fs X.ex X.H₀ H X.s₀.heap s.heap
  loc : ∃ m, s.heap.Ns X.env.locals m ∧ ∀ (i : Nat) (x : Str) (v : V), X.N[i]? = some x → σ[i]? = some (some v) → Vis X.env.scope x → ∃ u, RelV v u ∧ Look X.env s.heap m x u
  cell : ∀ x c, X.env.cells.lookup x = some c → ∃ v, s.heap.IsCell c v
  free : H X.env.locals = none
  freeC : ∀ x c, X.env.cells.lookup x = some c → H c = none
  pin : ∀ p ∈ X.pn ++ pins, s.heap.get? p.1 = some p.2 ∧ H p.1 = none ∧ p.1 ≠ X.env.locals ∧ p.1 ∉ X.fs ∧ ∀ v, p.2.data ≠ .cell v
  hok : HOk X.prog X.w H s.heap
  len : σ.length = X.N.length
section
variable {X : Cx} {pins : List (Addr × Obj)} {σ : List (Option V)} {H H' : Hp} {s : Shared} {h' : Heap}
theorem Cx.Ok.nofr (ok : X.Ok) {b : Addr} {o : Obj} (e : X.base.get? b = some o) : b ∉ X.fs := fun hb => by
  have := (ok.funs.mem hb).1
  rw [e] at this; cases this
theorem Inv.bs (I : Inv X pins σ H s) : ∀ b o, X.base.get? b = some o → s.heap.get? b = some o ∧ H b = none := fun b o e =>
  ⟨I.base.keep b o (I.ok.bs b o e).1 (I.ok.bs b o e).2 (I.ok.nofr e) (I.ok.noex b o e), I.base.free b o (I.ok.bs b o e).1 (I.ok.bs b o e).2 (I.ok.noex b o e)⟩
theorem Inv.bk (I : Inv X pins σ H s) : ∀ b o, X.base.get? b = some o → s.heap.get? b = some o := fun b o e => (I.bs b o e).1
theorem Inv.mod (I : Inv X pins σ H s) : Mod X.K X.mg X.base := I.ok.mod
theorem Inv.kIn (I : Inv X pins σ H s) : X.K.In s.heap := I.ok.mod.kin.keeps I.bk
theorem Inv.lt (I : Inv X pins σ H s) : X.env.locals < s.heap.objs.size := let ⟨_, hn, _⟩ := I.loc; hn.lt
theorem Inv.sz (I : Inv X pins σ H s) : X.s₀.heap.objs.size ≤ s.heap.objs.size := Nat.le_trans I.ok.above (Nat.le_of_lt I.lt)
theorem Inv.nofs (I : Inv X pins σ H s) {a : Addr} (h : s.heap.objs.size ≤ a) : a ∉ X.fs := fun hb => by
  obtain ⟨_, o, ho, _⟩ := I.ok.funs.mem hb
  exact absurd (Nat.lt_of_lt_of_le (Heap.lt_size ho) (Nat.le_trans I.sz h)) (Nat.lt_irrefl _)
theorem Inv.cne (I : Inv X pins σ H s) : ∀ x c, X.env.cells.lookup x = some c → c ≠ X.env.locals := fun x c e z => by
  obtain ⟨v, o, ho, hd⟩ := I.cell x c e
  obtain ⟨m, ⟨o', es, ep, ho', hd', _⟩, _⟩ := I.loc
  rw [z, ho'] at ho; cases ho; rw [hd'] at hd; cases hd
theorem Inv.funs (I : Inv X pins σ H s) : s.heap.FunFrames X.base X.outer := by
  have all : ∀ (l : List Env), (∀ b ∈ frs l, b ∈ X.fs) → X.s₀.heap.FunFrames X.base l → s.heap.FunFrames X.base l := by
    intro l
    induction l with
    | nil => intro _ _; trivial
    | cons env r ih =>
      intro hs hl
      obtain ⟨hk, ⟨L, o, hf, hn, ho, hd⟩, hr⟩ := hl
      have hL : L ∈ X.fs := hs L (by unfold frs; rw [List.filterMap_cons, hf]; exact List.mem_cons_self)
      obtain ⟨sl, e⟩ := I.base.slot L o ho (I.ok.frf L hL) hL fun z => I.ok.exfs L z hL
      exact ⟨hk, ⟨L, _, hf, hn, e, hd⟩, ih (fun b hb => hs b (by unfold frs; rw [List.filterMap_cons, hf]; exact List.mem_cons_of_mem _ hb)) hr⟩
  exact all X.outer (fun _ hb => hb) I.ok.funs
theorem Inv.stack (I : Inv X pins σ H s) : s.heap.FunFrames X.base X.stack := by
  rcases I.ok.stk with e | ⟨e, hf⟩
  · rw [e]; exact I.funs
  · rw [e]
    obtain ⟨m, hn, _⟩ := I.loc
    refine .cons (by rw [I.ok.kind]; decide) hf hn ?_ I.funs
    exact Heap.get?_none_of_le (Nat.le_trans I.ok.bsz I.ok.above)
theorem Inv.stkSub (I : Inv X pins σ H s) : ∀ b ∈ frs X.stack, b ∈ X.env.locals :: X.fs := fun b hb => by
  rcases I.ok.stk with e | ⟨e, hf⟩
  · rw [e] at hb; exact List.mem_cons_of_mem _ hb
  · rw [e] at hb
    unfold frs at hb
    rw [List.filterMap_cons, hf] at hb
    exact hb
theorem Inv.stkFree (I : Inv X pins σ H s) : ∀ b ∈ frs X.stack, H b = none := fun b hb => by
  rcases List.mem_cons.mp (I.stkSub b hb) with e | hb
  · rw [e]; exact I.free
  · obtain ⟨_, o, ho, _⟩ := I.ok.funs.mem hb
    exact I.base.free b o ho (I.ok.frf b hb) fun z => I.ok.exfs b z hb
theorem Inv.step {g' : Array GenState} {t' : Nat} {d' : Drawn} {ch : List Addr} (I : Inv X pins σ H s)
    (hch : ∀ b ∈ ch, (b ∈ X.ex ∨ X.s₀.heap.objs.size ≤ b) ∧ b ≠ X.env.locals ∧ (∀ x c, X.env.cells.lookup x = some c → c ≠ b) ∧ ∀ p ∈ X.pn ++ pins, p.1 ≠ b)
    (keep : ∀ b o, b ≠ X.env.locals → b ∉ X.fs → b ∉ ch → s.heap.get? b = some o → H b = none → h'.get? b = some o)
    (slot : ∀ b o, b ≠ X.env.locals → b ∈ X.fs → b ∉ ch → s.heap.get? b = some o → H b = none → ∃ sl, h'.get? b = some { o with slots := sl }) (free : ∀ b o, b ∉ ch → s.heap.get? b = some o → H b = none → H' b = none)
    (there : ∀ b o, b ∉ ch → s.heap.get? b = some o → ∃ o', h'.get? b = some o')
    (tups : ∀ b xs, H b = some (.tup xs) → H' b = some (.tup xs)) (frzs : ∀ b o u, H b = some (.frz o u) → H' b = some (.frz o u)) (tbls : ∀ b ps, H b = some (.tbl ps) → ∃ more, H' b = some (.tbl (ps ++ more)))
    (ns : ∀ m, s.heap.Ns X.env.locals m → h'.Ns X.env.locals m) (hok : HOk X.prog X.w H' h') (hg : AllBare g') :
    Inv X pins σ H' { s with heap := h', gens := g', drawn := d', toks := t' } := by
  have neL : ∀ b o, X.s₀.heap.get? b = some o → b ≠ X.env.locals := fun b o e => Nat.ne_of_lt (Nat.lt_of_lt_of_le (Heap.lt_size e) I.ok.above)
  have neC : ∀ b o, X.s₀.heap.get? b = some o → b ∉ X.ex → b ∉ ch := fun b o e hx hb => by
    rcases (hch b hb).1 with z | z
    · exact hx z
    · exact absurd (Nat.lt_of_lt_of_le (Heap.lt_size e) z) (Nat.lt_irrefl _)
  have cellK : ∀ x c, X.env.cells.lookup x = some c → ∀ v, s.heap.IsCell c v → h'.IsCell c v := fun x c e v ⟨o, ho, hd⟩ => by
    have nch : c ∉ ch := fun z => (hch c z).2.2.1 x c e rfl
    by_cases hc : c ∈ X.fs
    · obtain ⟨sl, q⟩ := slot c o (I.cne x c e) hc nch ho (I.freeC x c e)
      exact ⟨_, q, hd⟩
    · exact ⟨o, keep c o (I.cne x c e) hc nch ho (I.freeC x c e), hd⟩
  refine ⟨I.ok, I.os, hg, ⟨fun b o e n hb hx => ?_, fun b o e n hb hx => ?_, fun b o e n hx => ?_, fun b o e hx => ?_, fun b xs e => tups b xs (I.base.tups b xs e), fun b o xs e => frzs b o xs (I.base.frzs b o xs e), fun b ps e => ?_⟩, ?_, fun x c e => ?_, ?_, fun x c e => ?_, fun p hp => ?_, hok, I.len⟩
  · exact keep b o (neL b o e) hb (neC b o e hx) (I.base.keep b o e n hb hx) (I.base.free b o e n hx)
  · obtain ⟨sl, e1⟩ := I.base.slot b o e n hb hx
    obtain ⟨sl', e2⟩ := slot b _ (neL b o e) hb (neC b o e hx) e1 (I.base.free b o e n hx)
    exact ⟨sl', e2⟩
  · obtain ⟨o', e1⟩ := I.base.there b o e hx
    exact free b o' (neC b o e hx) e1 (I.base.free b o e n hx)
  · obtain ⟨o', e1⟩ := I.base.there b o e hx
    exact there b o' (neC b o e hx) e1
  · obtain ⟨m1, e1⟩ := I.base.tbls b ps e
    obtain ⟨m2, e2⟩ := tbls b _ e1
    exact ⟨m1 ++ m2, by rw [e2, Array.append_assoc]⟩
  · obtain ⟨m, hn, hl⟩ := I.loc
    refine ⟨m, ns m hn, fun i x v e1 e2 e3 => ?_⟩
    obtain ⟨u, r, l⟩ := hl i x v e1 e2 e3
    refine ⟨u, r, ?_⟩
    rcases l with l | ⟨k, c, e, z⟩
    · exact .inl l
    · exact .inr ⟨k, c, e, cellK x c e _ z⟩
  · obtain ⟨v, z⟩ := I.cell x c e
    exact ⟨v, cellK x c e v z⟩
  · obtain ⟨m, ⟨o, _, _, ho, _⟩, _⟩ := I.loc
    exact free _ o (fun z => (hch _ z).2.1 rfl) ho I.free
  · obtain ⟨v, o, ho, hd⟩ := I.cell x c e
    exact free c o (fun z => (hch c z).2.2.1 x c e rfl) ho (I.freeC x c e)
  · obtain ⟨e, n, ne, nf, d⟩ := I.pin p hp
    have nch : p.1 ∉ ch := fun z => (hch p.1 z).2.2.2 p hp rfl
    exact ⟨keep p.1 p.2 ne nf nch e n, free p.1 p.2 nch e n, ne, nf, d⟩
theorem Inv.un {t' : Nat} (I : Inv X pins σ H s) (u : Un X.fs [] H H' s.heap h') (hok : HOk X.prog X.w H' h') : Inv X pins σ H' { s with heap := h', toks := t' } := by
  obtain ⟨m, ⟨o, es, ep, ho, r⟩, _⟩ := id I.loc
  obtain ⟨sl, hL⟩ := u.any ho I.free (by simp)
  exact I.step (g' := s.gens) (d' := s.drawn) (ch := []) (fun _ z => nomatch z) (fun b o _ hb _ e n => u.keep b o e n hb (by simp)) (fun b o _ hb _ e n => u.slot b o e n hb (by simp)) (fun b o _ e n => u.free b o e n (by simp)) (fun b o _ e => u.there b o e (by simp)) u.tups u.frzs u.tbls (fun m' hm => by
    obtain ⟨o', es', ep', ho', r'⟩ := hm
    rw [ho] at ho'; cases ho'
    exact ⟨_, es', ep', hL, r'⟩) hok I.bare
theorem Inv.call {g' : Array GenState} {t' : Nat} {d' : Drawn} {ch : List Addr} (I : Inv X pins σ H s) (u : Un (frs X.stack) ch H H' s.heap h') (hok : HOk X.prog X.w H' h') (hg : AllBare g')
    (hch : ∀ b ∈ ch, (b ∈ X.ex ∨ X.s₀.heap.objs.size ≤ b) ∧ b ≠ X.env.locals ∧ (∀ x c, X.env.cells.lookup x = some c → c ≠ b) ∧ ∀ p ∈ X.pn ++ pins, p.1 ≠ b) :
    Inv X pins σ H' { s with heap := h', gens := g', drawn := d', toks := t' } := by
  obtain ⟨m, ⟨o, es, ep, ho, r⟩, _⟩ := id I.loc
  obtain ⟨sl, hL⟩ := u.any ho I.free fun z => (hch _ z).2.1 rfl
  exact I.step (ch := ch) hch (fun b o hL hb hc e n => u.keep b o e n (fun z => (List.mem_cons.mp (I.stkSub b z)).elim hL hb) hc) (fun b o _ _ hc e n => u.any e n hc) (fun b o hc e n => u.free b o e n hc) (fun b o hc e => u.there b o e hc) u.tups u.frzs u.tbls (fun m' hm => by
    obtain ⟨o', es', ep', ho', r'⟩ := hm
    rw [ho] at ho'; cases ho'
    exact ⟨_, es', ep', hL, r'⟩) hok hg
theorem Inv.turned {t' : Nat} {it : Addr} (I : Inv X pins σ H s) (k : ∀ b o, b ≠ it → s.heap.get? b = some o → h'.get? b = some o) (hn : H it = none) (hL : it ≠ X.env.locals)
    (h1 : it ∈ X.ex ∨ X.s₀.heap.objs.size ≤ it) (h2 : ∀ x c, X.env.cells.lookup x = some c → c ≠ it) (h3 : ∀ p ∈ X.pn ++ pins, p.1 ≠ it) : Inv X pins σ H { s with heap := h', toks := t' } := by
  have nit : ∀ b u, H b = some u → b ≠ it := fun b u e z => by rw [z, hn] at e; cases e
  refine I.step (g' := s.gens) (d' := s.drawn) (ch := [it]) (fun b hb => ?_) (fun b o _ _ hc e _ => k b o (fun z => hc (by simp [z])) e) (fun b o _ _ hc e _ => ⟨o.slots, k b o (fun z => hc (by simp [z])) e⟩) (fun _ _ _ _ n => n)
    (fun b o hc e => ⟨o, k b o (fun z => hc (by simp [z])) e⟩) (fun _ _ e => e) (fun _ _ _ e => e) (fun b ps e => ⟨#[], by rw [e]; simp⟩) (fun m hm => ?_) (fun b u e => ?_) I.bare
  · have e : b = it := by simpa using hb
    subst e
    exact ⟨h1, hL, h2, h3⟩
  · obtain ⟨o, es, ep, ho, r⟩ := hm
    exact ⟨o, es, ep, k _ o (Ne.symm hL) ho, r⟩
  · refine (I.hok b u e).stay (fun c v hc q => k c v ?_ q) (fun _ q => q) fun _ _ q => q
    rcases hc with z | z
    · rw [z]; exact nit b u e
    · exact nit c _ z
theorem Inv.tok (I : Inv X pins σ H s) (t : Nat) : Inv X pins σ H { s with toks := t } := I.un (h' := s.heap) (t' := t) Un.refl I.hok
theorem Inv.kept {t' : Nat} (I : Inv X pins σ H s) (k : ∀ b u, s.heap.get? b = some u → h'.get? b = some u) : Inv X pins σ H { s with heap := h', toks := t' } := I.un (Un.kept k) (I.hok.kept k)
theorem Inv.laid {a : Addr} {o : HO} {t' : Nat} (I : Inv X pins σ H s) (k : ∀ b u, s.heap.get? b = some u → h'.get? b = some u) (hp : s.heap.objs.size ≤ a) (new : ObjOk X.prog X.w (upd H a o) h' a o) :
    Inv X pins σ (upd H a o) { s with heap := h', toks := t' } := I.un (Un.laid k hp (I.hok.fresh hp)) (I.hok.laid k hp new)
theorem Inv.write {x e : Addr} {o : HO} {t' : Nat} (I : Inv X pins σ H s) (mu : Mut (H x)) (he : e = x ∨ H e = some (.own x)) (k : ∀ b u, b ≠ e → s.heap.get? b = some u → h'.get? b = some u) (heo : ∃ u, h'.get? e = some u)
    (new : ObjOk X.prog X.w (upd H x o) h' x o) : Inv X pins σ (upd H x o) { s with heap := h', toks := t' } := I.un (Un.write mu he k heo) (I.hok.write mu he k heo new)
theorem Inv.pins_of {pins' : List (Addr × Obj)} (I : Inv X pins σ H s) (h : ∀ p ∈ pins', s.heap.get? p.1 = some p.2 ∧ H p.1 = none ∧ p.1 ≠ X.env.locals ∧ p.1 ∉ X.fs ∧ ∀ v, p.2.data ≠ .cell v) : Inv X pins' σ H s :=
  ⟨I.ok, I.os, I.bare, I.base, I.loc, I.cell, I.free, I.freeC, fun p hp => (List.mem_append.mp hp).elim (fun z => I.pin p (List.mem_append_left _ z)) (h p), I.hok, I.len⟩
theorem nodup_ix {N : List Str} (hN : N.Nodup) {i j : Nat} {x : Str} (a : N[i]? = some x) (b : N[j]? = some x) : i = j := by
  obtain ⟨h1, e1⟩ := List.getElem?_eq_some_iff.mp a
  obtain ⟨h2, e2⟩ := List.getElem?_eq_some_iff.mp b
  exact (List.getElem_inj hN).mp (e1.trans e2.symm)
theorem store_ok2 {M : Model} {A : Around} {E : Value → Shared → Prop} {i : Nat} {x : Str} {v : V} {u : Value} {Q : Unit → Shared → Prop} (I : Inv X pins σ H s) (hN : X.N.Nodup) (hi : X.N[i]? = some x) (hx : Loc X.env.scope x) (r : RelV v u)
    (h : ∀ s', Inv X pins (σ.set i (some v)) H s' → (∃ a, Heap.SameBut a s.heap s'.heap ∧ (a = X.env.locals ∨ X.env.cells.lookup x = some a)) → Q () s') (hf : X.fn x = true ∨ X.env.scope.names.lookup x = some .local := by first | exact .inl rfl | exact .inr rfl | assumption) : wpAny M A (storeName X.env x u) Q E s := by
  obtain ⟨m, hn, hl⟩ := id I.loc
  have hcls : (X.env.scope.kind == .class || (X.env.scope.kind == .module && X.env.locals != X.env.globals)) = false := by rw [I.ok.kind]; rfl
  have hiσ : i < σ.length := by rw [I.len]; exact (List.getElem?_eq_some_iff.mp hi).1
  have cne := I.cne
  have tracked : ∀ {a : Addr} {h' : Heap}, (∃ o, s.heap.get? a = some o ∧ H a = none) → Heap.SameBut a s.heap h' → HOk X.prog X.w H h' := fun {a h'} ha hs b ob e => by
    obtain ⟨_, _, hfree⟩ := ha
    refine (I.hok b ob e).stay (fun c w' hc q => (hs.2 c ?_).trans q) (fun _ q => q) fun _ _ q => q
    rintro rfl
    rcases hc with rfl | hc
    · rw [hfree] at e; cases e
    · rw [hfree] at hc; cases hc
  rcases hx with hk | hk
  · refine wpAny_storeName_local hk hn (fun h' hn' hs => ?_) hcls
    obtain ⟨oL, _, _, hoL, _⟩ := id hn
    refine h _ ⟨I.ok, I.os, I.bare, ⟨fun b o e n hb hx => ?_, fun b o e n hb hx => ?_, I.base.free, fun b o e hx => ?_, I.base.tups, I.base.frzs, I.base.tbls⟩, ⟨_, hn', fun j y v' e1 e2 e3 => ?_⟩, fun y c e => ?_, I.free, I.freeC, fun p hp => ?_, tracked ⟨oL, hoL, I.free⟩ hs, by simpa using I.len⟩ ⟨_, hs, .inl rfl⟩
    · exact (hs.2 b (Nat.ne_of_lt (Nat.lt_of_lt_of_le (Heap.lt_size e) I.ok.above))).trans (I.base.keep b o e n hb hx)
    · obtain ⟨sl, e1⟩ := I.base.slot b o e n hb hx
      exact ⟨sl, (hs.2 b (Nat.ne_of_lt (Nat.lt_of_lt_of_le (Heap.lt_size e) I.ok.above))).trans e1⟩
    · obtain ⟨o', e1⟩ := I.base.there b o e hx
      exact ⟨o', (hs.2 b (Nat.ne_of_lt (Nat.lt_of_lt_of_le (Heap.lt_size e) I.ok.above))).trans e1⟩
    · by_cases hj : j = i
      · subst hj
        rw [hi] at e1; cases e1
        rw [List.getElem?_set_self hiσ] at e2
        cases e2
        exact ⟨u, r, .inl ⟨hk, by simp⟩⟩
      · rw [List.getElem?_set_ne (Ne.symm hj)] at e2
        obtain ⟨u', r', q⟩ := hl j y v' e1 e2 e3
        refine ⟨u', r', ?_⟩
        rcases q with ⟨k, e⟩ | ⟨k, c, e, z⟩
        · refine .inl ⟨k, ?_⟩
          have : y ≠ x := fun e => hj (nodup_ix hN e1 (e ▸ hi))
          simp [this, e]
        · exact .inr ⟨k, c, e, z.sameBut hs (cne y c e)⟩
    · obtain ⟨w', z⟩ := I.cell y c e
      exact ⟨w', z.sameBut hs (cne y c e)⟩
    · obtain ⟨e, n, ne, nf, d⟩ := I.pin p hp
      exact ⟨(hs.2 p.1 ne).trans e, n, ne, nf, d⟩
  · have hfn : X.fn x = true := by
      rcases hf with z | z
      · exact z
      · rw [z] at hk; cases hk
    obtain ⟨c, hc⟩ := I.ok.has x (.inl hk)
    obtain ⟨w', z⟩ := I.cell x c hc
    refine wpAny_storeName_cell I.ok.kind hk hc z (fun h' hc' hs => ?_)
    obtain ⟨oc, hoc, hocd⟩ := id z
    refine h { s with heap := h' } ⟨I.ok, I.os, I.bare, ⟨fun b o e n hb hx => ?_, fun b o e n hb hx => ?_, I.base.free, fun b o e hx => ?_, I.base.tups, I.base.frzs, I.base.tbls⟩, ⟨m, hn.sameBut hs (Ne.symm (cne x c hc)), fun j y v' e1 e2 e3 => ?_⟩, fun y c' e => ?_, I.free, I.freeC, fun p hp => ?_, tracked ⟨oc, hoc, I.freeC x c hc⟩ hs, by simpa using I.len⟩ ⟨c, hs, .inr hc⟩
    · exact (hs.2 b (Nat.ne_of_lt (Nat.lt_of_lt_of_le (Heap.lt_size e) (I.ok.cab x c hfn hc)))).trans (I.base.keep b o e n hb hx)
    · obtain ⟨sl, e1⟩ := I.base.slot b o e n hb hx
      exact ⟨sl, (hs.2 b (Nat.ne_of_lt (Nat.lt_of_lt_of_le (Heap.lt_size e) (I.ok.cab x c hfn hc)))).trans e1⟩
    · obtain ⟨o', e1⟩ := I.base.there b o e hx
      exact ⟨o', (hs.2 b (Nat.ne_of_lt (Nat.lt_of_lt_of_le (Heap.lt_size e) (I.ok.cab x c hfn hc)))).trans e1⟩
    · by_cases hj : j = i
      · subst hj
        rw [hi] at e1; cases e1
        rw [List.getElem?_set_self hiσ] at e2
        cases e2
        exact ⟨u, r, .inr ⟨.inl hk, c, hc, hc'⟩⟩
      · rw [List.getElem?_set_ne (Ne.symm hj)] at e2
        obtain ⟨u', r', q⟩ := hl j y v' e1 e2 e3
        refine ⟨u', r', ?_⟩
        rcases q with q | ⟨k, c', e, z'⟩
        · exact .inl q
        · refine .inr ⟨k, c', e, z'.sameBut hs ?_⟩
          rintro rfl
          exact hj (nodup_ix hN e1 (I.ok.inj _ _ _ e hc ▸ hi))
    · by_cases hcc : c' = c
      · subst hcc; exact ⟨_, hc'⟩
      · obtain ⟨w2, z2⟩ := I.cell y c' e
        exact ⟨w2, z2.sameBut hs hcc⟩
    · obtain ⟨e, n, ne, nf, d⟩ := I.pin p hp
      refine ⟨(hs.2 p.1 ?_).trans e, n, ne, nf, d⟩
      intro q
      rw [q, hoc] at e
      have q' : oc = p.2 := Option.some.inj e
      exact d w' (by rw [← q']; exact hocd)
theorem store_ok {M : Model} {A : Around} {E : Value → Shared → Prop} {i : Nat} {x : Str} {v : V} {u : Value} {Q : Unit → Shared → Prop} (I : Inv X pins σ H s) (hN : X.N.Nodup) (hi : X.N[i]? = some x) (hx : Loc X.env.scope x) (r : RelV v u)
    (h : ∀ s', Inv X pins (σ.set i (some v)) H s' → Q () s') (hf : X.fn x = true ∨ X.env.scope.names.lookup x = some .local := by first | exact .inl rfl | exact .inr rfl | assumption) : wpAny M A (storeName X.env x u) Q E s :=
  store_ok2 I hN hi hx r (fun s' I' _ => h s' I') hf
theorem Inv.call' {s' : Shared} {ch : List Addr} (I : Inv X pins σ H s) (ho : s'.os = s.os) (u : Un (frs X.stack) ch H H' s.heap s'.heap) (hok : HOk X.prog X.w H' s'.heap) (hg : AllBare s'.gens)
    (hch : ∀ b ∈ ch, (b ∈ X.ex ∨ X.s₀.heap.objs.size ≤ b) ∧ b ≠ X.env.locals ∧ (∀ x c, X.env.cells.lookup x = some c → c ≠ b) ∧ ∀ p ∈ X.pn ++ pins, p.1 ≠ b) : Inv X pins σ H' s' := by
  obtain ⟨h', g', d', t', o'⟩ := s'
  have e : o' = s.os := ho
  subst e
  exact I.call (g' := g') (t' := t') (d' := d') u hok hg hch
end
abbrev XK := Value → Option Addr → Hp → Prop
abbrev St := List (Option V)
abbrev VK := V → Hp → Prop
abbrev TE := St → Hp → VK → Prop
abbrev TT := St → Hp → (Bool → Hp → Prop) → Prop
abbrev TA := St → Hp → (List V → Hp → Prop) → Prop
structure Ends where
  nx : St → Hp → Prop
  rt : VK
  bk : St → Hp → Prop := fun _ _ => False
  ct : St → Hp → Prop := fun _ _ => False
abbrev TS := Ends → St → Hp → Prop
def EP (X : Cx) (pins : List (Addr × Obj)) (σ : St) (Q : VK) (u : Value) (s' : Shared) : Prop := ∃ v H', Inv X pins σ H' s' ∧ RelV v u ∧ Q v H'
def TP (X : Cx) (pins : List (Addr × Obj)) (σ : St) (Q : Bool → Hp → Prop) (b : Bool) (s' : Shared) : Prop := ∃ H', Inv X pins σ H' s' ∧ Q b H'
def AP (X : Cx) (pins : List (Addr × Obj)) (σ : St) (Q : List V → Hp → Prop) (us : List Value) (s' : Shared) : Prop := ∃ vs H', Inv X pins σ H' s' ∧ Vals vs us ∧ Q vs H'
def SP (X : Cx) (pins : List (Addr × Obj)) (D : Ends) (f : Flow) (s' : Shared) : Prop :=
  match f with
  | .next => ∃ σ' H', Inv X pins σ' H' s' ∧ D.nx σ' H'
  | .brk => ∃ σ' H', Inv X pins σ' H' s' ∧ D.bk σ' H'
  | .cont => ∃ σ' H', Inv X pins σ' H' s' ∧ D.ct σ' H'
  | .ret u => ∃ v σ' H', Inv X pins σ' H' s' ∧ RelV v u ∧ D.rt v H'
def PE (X : Cx) (e : Expr) (t : TE) : Prop :=
  ∀ (pins : List (Addr × Obj)) (s : Shared) (σ : St) (H : Hp) (Q : VK), Inv X pins σ H s → t σ H Q → wpAny (model X.prog X.w) X.A (eval e X.env) (EP X pins σ Q) X.xe s
def PT (X : Cx) (e : Expr) (t : TT) : Prop :=
  ∀ (pins : List (Addr × Obj)) (s : Shared) (σ : St) (H : Hp) (Q : Bool → Hp → Prop), Inv X pins σ H s → t σ H Q → wpAny (model X.prog X.w) X.A (isTrue e X.env (eval e X.env)) (TP X pins σ Q) X.xe s
def PW (X : Cx) (e : Expr) (t : TT) : Prop :=
  ∀ (whole : Sem Value) (pins : List (Addr × Obj)) (s : Shared) (σ : St) (H : Hp) (Q : Bool → Hp → Prop), Inv X pins σ H s → t σ H Q → wpAny (model X.prog X.w) X.A (isTrue e X.env whole) (TP X pins σ Q) X.xe s
theorem PW.pt {X : Cx} {e : Expr} {t : TT} (h : PW X e t) : PT X e t := h _
def PA (X : Cx) (es : List Expr) (t : TA) : Prop :=
  ∀ (pos : Pos) (pins : List (Addr × Obj)) (s : Shared) (σ : St) (H : Hp) (Q : List V → Hp → Prop), Inv X pins σ H s → t σ H Q → wpAny (model X.prog X.w) X.A (spliced (backTo pos (starEach es X.env))) (AP X pins σ Q) X.xe s
def PS (X : Cx) (st : Stmt) (t : TS) : Prop :=
  ∀ (pins : List (Addr × Obj)) (s : Shared) (σ : St) (H : Hp) (D : Ends), Inv X pins σ H s → t D σ H → wpAny (model X.prog X.w) X.A (exec st X.env) (SP X pins D) X.xe s
def PSs (X : Cx) (st : List Stmt) (t : TS) : Prop :=
  ∀ (pins : List (Addr × Obj)) (s : Shared) (σ : St) (H : Hp) (D : Ends), Inv X pins σ H s → t D σ H → wpAny (model X.prog X.w) X.A (execs st X.env) (SP X pins D) X.xe s
theorem thn {α : Type} {t : Sem α} {Q Q' : α → Shared → Prop} {M : Model} {A : Around} {E : Value → Shared → Prop} {s : Shared} (h : wpAny M A t Q E s) (hQ : ∀ a s, Q a s → Q' a s) : wpAny M A t Q' E s := wpAny_mono h hQ fun _ _ x => x
end L2
namespace L2
open PySem PySem.Spec PyProof.Rows
section
variable {X : Cx}
def tVar (i : Nat) : TE := fun σ H Q => ∃ v, σ[i]? = some (some v) ∧ Q v H
def tC (v : V) : TE := fun _ H Q => Q v H
theorem pe_var {i : Nat} {x : Str} {pos : Pos} (hN : X.N[i]? = some x) (hv : Vis X.env.scope x) (hd : (x == ("__debug__" : Str)) = false := by decide) (hcd : (x == ("__classdict__" : Str)) = false := by decide) : PE X (.Name x pos) (tVar i) := by
  intro pins s σ H Q I h
  obtain ⟨v, e, h⟩ := h
  obtain ⟨m, hn, hl⟩ := I.loc
  obtain ⟨u, r, l⟩ := hl i x v hN e hv
  have fin : EP X pins σ Q u s := ⟨v, H, I, r, h⟩
  rcases l with ⟨hk, hm⟩ | ⟨hk, c, hc, hcell⟩
  · exact wpAny_Name (wpAny_loadName_local I.ok.kind hk hn hm fin) hd
  · rcases hk with hk | hk
    · exact wpAny_Name (wpAny_loadName_cell I.ok.kind hk hc hcell fin) hd
    · exact wpAny_Name (wpAny_loadName_free I.ok.kind hk hc hcell fin hcd) hd
theorem pe_int {i j pos} : PE X (.Constant (.int i) j pos) (tC (.int i)) := fun _ _ _ H _ I h => wpAny_Constant_int ⟨.int i, H, I.tok _, ⟨_, rfl⟩, h⟩
theorem pe_bl {b j pos} : PE X (.Constant (.bool b) j pos) (tC (.bl b)) := fun _ _ _ H _ I h => Constant_bool ⟨.bl b, H, I, rfl, h⟩
theorem pe_non {j pos} : PE X (.Constant .none j pos) (tC .non) := fun _ _ _ H _ I h => Constant_none ⟨.non, H, I, rfl, h⟩
theorem pe_str {x j pos} : PE X (.Constant (.str x) j pos) (tC (.str x)) := fun _ _ _ H _ I h => Calls.Constant_str ⟨.str x, H, I.tok _, ⟨_, rfl⟩, h⟩
def Gl (X : Cx) (x : Str) : Prop := X.env.kindOf x = some .globalImplicit
theorem ld_glob {E : Value → Shared → Prop} {pins : List (Addr × Obj)} {s : Shared} {σ : St} {H : Hp} {x : Str} {u : Value} {pos : Pos} {Q : Value → Shared → Prop} (I : Inv X pins σ H s) (hg : Gl X x) (hm : X.mg x = some u) (h : Q u s)
    (hd : (x == ("__debug__" : Str)) = false := by decide) : wpAny (model X.prog X.w) X.A (eval (.Name x pos) X.env) Q E s :=
  Calls.Name_function_global I.ok.kind hg (Calls.loadGlobal_global (by rw [I.ok.glob]; exact I.mod.glob.keeps I.bk) hm h) hd
theorem ld_blt {E : Value → Shared → Prop} {pins : List (Addr × Obj)} {s : Shared} {σ : St} {H : Hp} {x : Str} {u : Value} {pos : Pos} {Q : Value → Shared → Prop} (I : Inv X pins σ H s) (hg : Gl X x) (hm : X.mg x = none) (hv : bootBuiltins x = some u) (h : Q u s)
    (hn : x ≠ "__name__" := by decide) (hd : (x == ("__debug__" : Str)) = false := by decide) : wpAny (model X.prog X.w) X.A (eval (.Name x pos) X.env) Q E s := by
  obtain ⟨mb, h1, h2⟩ := I.mod.blt
  exact Calls.Name_function_global I.ok.kind hg (Calls.loadGlobal_builtin (by rw [I.ok.glob]; exact I.mod.glob.keeps I.bk) hm (by rw [I.ok.blt]; exact h1.keeps I.bk) ((h2 x hn).trans hv) h) hd
theorem pe_glob {x : Str} {v : V} {u : Value} {pos : Pos} (hg : Gl X x) (hm : X.mg x = some u) (r : RelV v u) (hd : (x == ("__debug__" : Str)) = false := by decide) : PE X (.Name x pos) (tC v) :=
  fun _ _ _ H _ I h => ld_glob I hg hm ⟨v, H, I, r, h⟩ hd
theorem pe_bltn {x : Str} {v : V} {u : Value} {pos : Pos} (hg : Gl X x) (hm : X.mg x = none) (hv : bootBuiltins x = some u) (r : RelV v u) (hn : x ≠ "__name__" := by decide) (hd : (x == ("__debug__" : Str)) = false := by decide) : PE X (.Name x pos) (tC v) :=
  fun _ _ _ H _ I h => ld_blt I hg hm hv ⟨v, H, I, r, h⟩ hn hd
variable {a b : Expr} {ta tb : TE} {pos : Pos}
def tB (t : TE) : TT := fun σ H Q => t σ H fun x H1 => ∃ c, x = .bl c ∧ Q c H1
theorem pt_val {e : Expr} {t : TE} (h : PE X e t) (he : ∀ whole, isTrue e X.env whole = (do let v ← whole; standAt e.pos; holding [v] (truthy v)) := by intro _; rfl) : PT X e (tB t) := by
  intro pins s σ H Q I hw
  refine isTrue_plain (thn (h pins s σ H _ I hw) fun v s1 ⟨x, H1, I1, r1, q1⟩ => ?_) (he _)
  obtain ⟨d, rfl, q⟩ := q1
  cases r1
  exact wpAny_truthy_bool ⟨H1, I1, q⟩
variable {tA tB' : TT} {rest : List Expr}
def tAnd (t u : TT) : TT := fun σ H Q => t σ H fun c H1 => if c = true then u σ H1 Q else Q false H1
def tOr (t u : TT) : TT := fun σ H Q => t σ H fun c H1 => if c = true then Q true H1 else u σ H1 Q
def tNot (t : TT) : TT := fun σ H Q => t σ H fun c H1 => Q (!c) H1
theorem pw_and1 (ha : PT X a tA) : PW X (.BoolOp .And [a] pos) tA := by
  intro wh pins s σ H Q I h
  refine isTrue_and (thn (ha pins s σ H Q I h) fun c s1 e => ?_)
  cases c with
  | true => exact isTrue_and_nil e
  | false => exact e
theorem pw_or1 (ha : PT X a tA) : PW X (.BoolOp .Or [a] pos) tA := by
  intro wh pins s σ H Q I h
  refine isTrue_or (thn (ha pins s σ H Q I h) fun c s1 e => ?_)
  cases c with
  | false => exact isTrue_or_nil e
  | true => exact e
theorem pw_and (ha : PT X a tA) (hb : PW X (.BoolOp .And (b :: rest) pos) tB') : PW X (.BoolOp .And (a :: b :: rest) pos) (tAnd tA tB') := by
  intro wh pins s σ H Q I h
  refine isTrue_and (thn (ha pins s σ H _ I h) fun c s1 ⟨H1, I1, q1⟩ => ?_)
  cases c with
  | true => exact hb wh pins s1 σ H1 Q I1 q1
  | false => exact ⟨H1, I1, q1⟩
theorem pw_or (ha : PT X a tA) (hb : PW X (.BoolOp .Or (b :: rest) pos) tB') : PW X (.BoolOp .Or (a :: b :: rest) pos) (tOr tA tB') := by
  intro wh pins s σ H Q I h
  refine isTrue_or (thn (ha pins s σ H _ I h) fun c s1 ⟨H1, I1, q1⟩ => ?_)
  cases c with
  | true => exact ⟨H1, I1, q1⟩
  | false => exact hb wh pins s1 σ H1 Q I1 q1
theorem pt_not (ha : PT X a tA) : PT X (.UnaryOp .Not a pos) (tNot tA) := by
  intro pins s σ H Q I h
  exact isTrue_not (ha pins s σ H (fun c H1 => Q (!c) H1) I h)
def tAndV (ta tb : TE) : TE := fun σ H Q => ta σ H fun x H1 => ∃ c, x = .bl c ∧ if c = true then tb σ H1 Q else Q (.bl false) H1
def tNotV (ta : TE) : TE := fun σ H Q => ta σ H fun x H1 => ∃ c, x = .bl c ∧ Q (.bl (!c)) H1
theorem pe_one {op} {t : TE} (h : PE X a t) : PE X (.BoolOp op [a] pos) t := fun pins s σ H Q I hw => BoolOp_one (h pins s σ H Q I hw)
theorem pe_and (ha : PE X a ta) (hb : PE X (.BoolOp .And (b :: rest) pos) tb) : PE X (.BoolOp .And (a :: b :: rest) pos) (tAndV ta tb) := by
  intro pins s σ H Q I h
  refine BoolOp_and (thn (ha pins s σ H _ I h) fun v s1 ⟨x, H1, I1, r1, q1⟩ => ?_)
  obtain ⟨c, rfl, q1⟩ := q1
  cases r1
  refine wpAny_truthy_bool ?_
  cases c with
  | true => exact hb pins s1 σ H1 Q I1 q1
  | false => exact ⟨.bl false, H1, I1, rfl, q1⟩
theorem pe_not (ha : PE X a ta) : PE X (.UnaryOp .Not a pos) (tNotV ta) := by
  intro pins s σ H Q I h
  refine UnaryOp_ (thn (ha pins s σ H _ I h) fun v s1 ⟨x, H1, I1, r1, q1⟩ => ?_)
  obtain ⟨c, rfl, q1⟩ := q1
  cases r1
  exact not_of (wpAny_truthy_bool ⟨.bl (!c), H1, I1, rfl, q1⟩)
end
end L2
namespace L2
open PySem PySem.Spec PyProof.Rows
def SqL (K : PySem.W.Frag) (H : Hp) (a : Addr) (xs : List V) : Prop :=
  Rd H a (.lst xs) ∨
    ∃ (o : Obj) (its : Array Value) (n : Nat), K.lookup a = some o ∧ o.cls = .type "list" ∧ o.dict = none ∧ o.data = .seq its n ∧ its.size ≤ sizeLine ∧ Vals xs its.toList
def SqT (K : PySem.W.Frag) (H : Hp) (a : Addr) (xs : List V) : Prop :=
  Rd H a (.tup xs) ∨
    ∃ (o : Obj) (its : Array Value) (n : Nat), K.lookup a = some o ∧ o.cls = .type "tuple" ∧ o.data = .seq its n ∧ its.size ≤ sizeLine ∧ Vals xs its.toList
def absV : Value → Option V
  | .none => some .non
  | .bool b => some (.bl b)
  | .int i _ => some (.int i)
  | .str x _ => some (.str x)
  | .bytes b _ => some (.byt b)
  | .float b _ => some (.flt b)
  | .ref a => some (.ref a)
  | .type n => some (.ty n)
  | _ => none
theorem RelV.abs {x : V} {u : Value} (r : RelV x u) : absV u = some x := by
  cases x with
  | non => cases r; rfl
  | bl _ => cases r; rfl
  | int _ => obtain ⟨t, rfl⟩ := r; rfl
  | str _ => obtain ⟨t, rfl⟩ := r; rfl
  | byt _ => obtain ⟨t, rfl⟩ := r; rfl
  | flt _ => obtain ⟨t, rfl⟩ := r; rfl
  | ref _ => cases r; rfl
  | ty _ => cases r; rfl
theorem RelV.inj {x y : V} {u : Value} (r : RelV x u) (q : RelV y u) : x = y := Option.some.inj (r.abs.symm.trans q.abs)
theorem Vals.inj : ∀ {xs ys : List V} {us : List Value}, Vals xs us → Vals ys us → xs = ys
  | _, _, _, .nil, .nil => rfl
  | _, _, _, .cons r t, .cons r' t' => by rw [r.inj r', Vals.inj t t']
section
variable {X : Cx} {pins : List (Addr × Obj)} {σ : St} {H : Hp} {s : Shared} {a : Addr} {xs ys : List V}
theorem SqL.of {K : PySem.W.Frag} (h : H a = some (.lst xs)) : SqL K H a xs := .inl (.inl h)
theorem SqT.of {K : PySem.W.Frag} (h : H a = some (.tup xs)) : SqT K H a xs := .inl (.inl h)
theorem Inv.list (I : Inv X pins σ H s) (h : SqL X.K H a xs) : ∃ its : List Value, Vals xs its ∧ PlainL s.heap a its.toArray ∧ xs.length ≤ sizeLine := by
  rcases h with h | ⟨o, its, n, hk, hc, hd, hs, hz, r⟩
  · obtain ⟨z, its, n, r, e⟩ := h.ok I.hok
    exact ⟨its, r, ⟨_, n, e, rfl, rfl, rfl⟩, z⟩
  · refine ⟨its.toList, r, ⟨o, n, I.kIn a o hk, hc, hd, by simpa using hs⟩, ?_⟩
    have e := r.length
    simp only [Array.length_toList] at e
    omega
theorem Inv.tuple (I : Inv X pins σ H s) (h : SqT X.K H a xs) : ∃ its : List Value, Vals xs its ∧ IsTup s.heap a its.toArray ∧ xs.length ≤ sizeLine := by
  rcases h with h | ⟨o, its, n, hk, hc, hs, hz, r⟩
  · obtain ⟨z, its, r, p⟩ := h.ok I.hok
    exact ⟨its, r, p, z⟩
  · refine ⟨its.toList, r, ⟨o, I.kIn a o hk, hc, n, by simpa using hs⟩, ?_⟩
    have e := r.length
    simp only [Array.length_toList] at e
    omega
theorem Inv.list_inj (I : Inv X pins σ H s) (h : SqL X.K H a xs) (h' : SqL X.K H a ys) : xs = ys := by
  obtain ⟨its, r, ⟨o, n, e, _, _, d⟩, _⟩ := I.list h
  obtain ⟨its', r', ⟨o', n', e', _, _, d'⟩, _⟩ := I.list h'
  rw [e] at e'; cases e'
  rw [d] at d'
  injection d' with d1 _
  have : its = its' := by simpa using congrArg Array.toList d1
  subst this
  exact r.inj r'
theorem Inv.tuple_inj (I : Inv X pins σ H s) (h : SqT X.K H a xs) (h' : SqT X.K H a ys) : xs = ys := by
  obtain ⟨its, r, ⟨o, e, _, n, d⟩, _⟩ := I.tuple h
  obtain ⟨its', r', ⟨o', e', _, n', d'⟩, _⟩ := I.tuple h'
  rw [e] at e'; cases e'
  rw [d] at d'
  injection d' with d1 _
  have : its = its' := by simpa using congrArg Array.toList d1
  subst this
  exact r.inj r'
end
abbrev Cx.wish (X : Cx) (E : Value → Shared → Prop) : Cx := { X with xe := E }
abbrev Cx.nox (X : Cx) : Cx := X.wish fun _ _ => False
theorem Cx.Ok.wish {X : Cx} (ok : X.Ok) (E : Value → Shared → Prop) : (X.wish E).Ok :=
  ⟨ok.mod, ok.kind, ok.glob, ok.blt, ok.above, ok.inj, ok.has, ok.cab, ok.hd, ok.frames, ok.stk, ok.exf, ok.bs, ok.bsz, ok.noex, ok.exfs, ok.funs, ok.frf⟩
theorem Cx.Ok.unwish {X : Cx} {E : Value → Shared → Prop} (ok : (X.wish E).Ok) : X.Ok :=
  ⟨ok.mod, ok.kind, ok.glob, ok.blt, ok.above, ok.inj, ok.has, ok.cab, ok.hd, ok.frames, ok.stk, ok.exf, ok.bs, ok.bsz, ok.noex, ok.exfs, ok.funs, ok.frf⟩
section
variable {X : Cx} {pins : List (Addr × Obj)} {σ : St} {H : Hp} {s : Shared} {E : Value → Shared → Prop}
theorem Inv.wish (I : Inv X pins σ H s) (E : Value → Shared → Prop) : Inv (X.wish E) pins σ H s := ⟨I.ok.wish E, I.os, I.bare, I.base, I.loc, I.cell, I.free, I.freeC, I.pin, I.hok, I.len⟩
theorem Inv.unwish (I : Inv (X.wish E) pins σ H s) : Inv X pins σ H s := ⟨I.ok.unwish, I.os, I.bare, I.base, I.loc, I.cell, I.free, I.freeC, I.pin, I.hok, I.len⟩
theorem SP.unwish {D : Ends} {f : Flow} {s' : Shared} (h : SP (X.wish E) pins D f s') : SP X pins D f s' := by
  cases f with
  | next => obtain ⟨σ', H', I, q⟩ := h; exact ⟨σ', H', I.unwish, q⟩
  | brk => obtain ⟨σ', H', I, q⟩ := h; exact ⟨σ', H', I.unwish, q⟩
  | cont => obtain ⟨σ', H', I, q⟩ := h; exact ⟨σ', H', I.unwish, q⟩
  | ret u => obtain ⟨v, σ', H', I, r, q⟩ := h; exact ⟨v, σ', H', I.unwish, r, q⟩
theorem PSs.nox {st : List Stmt} {t : TS} (h : PSs X.nox st t) : PSs X st t := fun pins s σ H D I hw =>
  wpAny_mono (h pins s σ H D (I.wish _) hw) (fun _ _ q => q.unwish) fun _ _ z => False.elim z
end
section
variable {X : Cx} {st : Stmt} {rest : List Stmt} {t u : TS} {e : Expr} {te : TE} {pos : Pos}
def tNext : TS := fun D σ H => D.nx σ H
def tSeq (t u : TS) : TS := fun D σ H => t { D with nx := u D } σ H
theorem pss_nil : PSs X [] tNext := fun _ _ σ H _ I h => wpAny_execs_nil ⟨σ, H, I, h⟩
theorem pss_cons (h1 : PS X st t) (h2 : PSs X rest u) : PSs X (st :: rest) (tSeq t u) := by
  intro pins s σ H D I h
  refine wpAny_execs_cons (thn (h1 pins s σ H { D with nx := u D } I h) fun f s1 q => ?_)
  cases f with
  | next =>
    obtain ⟨σ', H', I', q⟩ := q
    exact h2 pins s1 σ' H' D I' q
  | ret v => exact q
  | brk => exact q
  | cont => exact q
theorem pss_one (h1 : PS X st t) : PSs X [st] t := by
  intro pins s σ H D I h
  refine wpAny_execs_cons (thn (h1 pins s σ H D I h) fun f s1 q => ?_)
  cases f with
  | next => exact wpAny_execs_nil q
  | ret v => exact q
  | brk => exact q
  | cont => exact q
theorem Inv.quiet {pins : List (Addr × Obj)} {σ : St} {H : Hp} {s : Shared} (I : Inv X pins σ H s) : interactive X.env = false := by simp [interactive, I.ok.kind]
def tDrop (te : TE) : TS := fun D σ H => te σ H fun _ H1 => D.nx σ H1
theorem ps_expr (he : PE X e te) (hs : swapsWith e none pos.line X.env = pure false := by rfl) : PS X (.Expr e pos) (tDrop te) := by
  intro pins s σ H D I h
  exact wpAny_Expr_any (thn (he pins s σ H _ I h) fun v s1 ⟨x, H1, I1, r1, q1⟩ => ⟨σ, H1, I1, q1⟩) I.quiet hs
def tRet (te : TE) : TS := fun D σ H => te σ H D.rt
theorem ps_ret (he : PE X e te) : PS X (.Return (some e) pos) (tRet te) := by
  intro pins s σ H D I h
  exact wpAny_Return_some (thn (he pins s σ H _ I h) fun v s1 ⟨x, H1, I1, r1, q1⟩ => ⟨x, σ, H1, I1, r1, q1⟩)
def tIfS (c : TT) (t u : TS) : TS := fun D σ H => c σ H fun b H1 => if b = true then t D σ H1 else u D σ H1
theorem ps_if {c : Expr} {a b : List Stmt} {tc : TT} (hc : PT X c tc) (ha : PSs X a t) (hb : PSs X b u) : PS X (.If c a b pos) (tIfS tc t u) := by
  intro pins s σ H D I h
  refine wpAny_If (thn (hc pins s σ H _ I h) fun d s1 ⟨H1, I1, q1⟩ => ?_)
  cases d with
  | true => exact ha pins s1 σ H1 D I1 q1
  | false => exact hb pins s1 σ H1 D I1 q1
end
abbrev TG := V → St → Hp → (St → Hp → Prop) → Prop
abbrev TGs := List V → St → Hp → (St → Hp → Prop) → Prop
def PG (X : Cx) (target : Expr) (t : TG) : Prop :=
  ∀ (pins : List (Addr × Obj)) (s : Shared) (σ : St) (H : Hp) (v : V) (u : Value) (Q : St → Hp → Prop), Inv X pins σ H s → RelV v u → t v σ H Q →
    wpAny (model X.prog X.w) X.A (assign target X.env u) (fun _ s' => ∃ σ' H', Inv X pins σ' H' s' ∧ Q σ' H') X.xe s
def PGs (X : Cx) (ts : List Expr) (t : TGs) : Prop :=
  ∀ (pins : List (Addr × Obj)) (s : Shared) (σ : St) (H : Hp) (vs : List V) (us : List Value) (Q : St → Hp → Prop), Inv X pins σ H s → Vals vs us → t vs σ H Q →
    wpAny (model X.prog X.w) X.A (assignInOrder ((assignEach ts X.env).map (·.2)) us) (fun _ s' => ∃ σ' H', Inv X pins σ' H' s' ∧ Q σ' H') X.xe s
abbrev TSet := V → V → V → Hp → (Hp → Prop) → Prop
def PSet (X : Cx) (t : TSet) : Prop :=
  ∀ (pins : List (Addr × Obj)) (s : Shared) (σ : St) (H : Hp) (o i v : V) (ov iv u : Value) (Q : Hp → Prop), Inv X pins σ H s → RelV o ov → RelV i iv → RelV v u → t o i v H Q →
    wpAny (model X.prog X.w) X.A (setItem ov iv u) (fun _ s' => ∃ H', Inv X pins σ H' s' ∧ Q H') X.xe s
section
variable {X : Cx} {pos : Pos}
def gName (i : Nat) : TG := fun v σ H Q => Q (σ.set i (some v)) H
theorem pg_name {i : Nat} {x : Str} (hN : X.N.Nodup) (hi : X.N[i]? = some x) (hx : Loc X.env.scope x) (hf : X.fn x = true ∨ X.env.scope.names.lookup x = some .local := by first | exact .inl rfl | exact .inr rfl | assumption) : PG X (.Name x pos) (gName i) := by
  intro pins s σ H v u Q I r h
  exact wpAny_assign_Name (store_ok I hN hi hx r (fun s' I' => ⟨_, H, I', h⟩) hf)
def gNil : TGs := fun vs σ H Q => vs = [] ∧ Q σ H
def gCons (t : TG) (u : TGs) : TGs := fun vs σ H Q => ∃ v r, vs = v :: r ∧ t v σ H fun σ' H' => u r σ' H' Q
theorem pgs_nil : PGs X [] gNil := by
  intro pins s σ H vs us Q I r h
  obtain ⟨e, h⟩ := h
  subst e
  cases r
  exact assignInOrder_nil ⟨σ, H, I, h⟩
theorem pgs_cons {e : Expr} {es : List Expr} {t : TG} {u : TGs} (h1 : PG X e t) (h2 : PGs X es u)
    (hs : (assignEach (e :: es) X.env).map (·.2) = assign e X.env :: (assignEach es X.env).map (·.2) := by rfl) : PGs X (e :: es) (gCons t u) := by
  intro pins s σ H vs us Q I r h
  obtain ⟨v, vr, e1, h⟩ := h
  subst e1
  cases r with
  | cons r rr =>
    rw [hs]
    refine assignInOrder_cons (thn (h1 pins s σ H _ _ _ I r h) fun _ s1 ⟨σ1, H1, I1, q1⟩ => ?_)
    exact h2 pins s1 σ1 H1 _ _ Q I1 rr q1
def gTup (K : PySem.W.Frag) (n : Nat) (t : TGs) : TG := fun v σ H Q => ∃ a xs, v = .ref a ∧ SqT K H a xs ∧ xs.length = n ∧ t xs σ H Q
theorem pg_tup {es : List Expr} {k : Nat} {t : TGs} {n : Nat} (hc : X.calm = true) (h : PGs X es t)
    (hn : (assignEach es X.env).length = n := by rfl) (hst : (assignEach es X.env).findIdx? (·.1) = none := by rfl) : PG X (.Tuple es k pos) (gTup X.K n t) := by
  intro pins s σ H v u Q I r hw
  obtain ⟨a, xs, e1, hq, hl, hw⟩ := hw
  subst e1
  cases r
  obtain ⟨its, rv, ht, hz⟩ := I.tuple hq
  refine assign_Tuple_tuple (I.ok.hd hc) ht (by simp [hn, ← hl, rv.length]) hst fun h' hx => ?_
  have I1 : Inv X pins σ H { s with heap := h' } := I.kept (t' := s.toks) fun b o e => hx b o (Nat.ne_of_lt (Heap.lt_size e)) e
  exact h pins _ σ H xs _ Q I1 (by simpa using rv) hw
def gSub (to ti : TE) (t : TSet) : TG := fun v σ H Q => to σ H fun o H1 => ti σ H1 fun i H2 => t o i v H2 fun H3 => Q σ H3
theorem pg_sub {o i : Expr} {to ti : TE} {t : TSet} (ho : PE X o to) (hi : PE X i ti) (hs : PSet X t)
    (ha : ∀ v, assign (.Subscript o i pos) X.env v = (do
      let ov ← holding [v] (eval o X.env)
      let iv ← holding [v, ov] (eval i X.env)
      standAt pos
      holding [v, ov, iv] (setItem ov iv v)
      release [v, ov, iv] []) := by intro _; rfl) : PG X (.Subscript o i pos) (gSub to ti t) := by
  intro pins s σ H v u Q I r h
  rw [ha]
  refine wpAny_bind (wpAny_holding (thn (ho pins s σ H _ I h) fun ov s1 ⟨x, H1, I1, r1, q1⟩ => ?_))
  refine wpAny_bind (wpAny_holding (thn (hi pins s1 σ H1 _ I1 q1) fun iv s2 ⟨y, H2, I2, r2, q2⟩ => ?_))
  refine wpAny_bind (wpAny_standAt (wpAny_bind (wpAny_holding (thn (hs pins s2 σ H2 x y v ov iv u _ I2 r1 r2 r q2) fun _ s3 ⟨H3, I3, q3⟩ => ?_))))
  exact wpAny_release ⟨σ, H3, I3, q3⟩
def tAsg (te : TE) (g : TG) : TS := fun D σ H => te σ H fun x H1 => g x σ H1 D.nx
theorem ps_asg {tg e : Expr} {te : TE} {g : TG} (he : PE X e te) (hg : PG X tg g) (hs : swapsWithSole [tg] e pos.line X.env = pure false := by rfl) (hw : swappedStores [tg] e X.env = pure none := by rfl)
    (h1 : (assignEach [tg] X.env).map (·.2) = [assign tg X.env] := by rfl) : PS X (.Assign [tg] e pos) (tAsg te g) := by
  intro pins s σ H D I h
  refine wpAny_Assign_stores (thn (he pins s σ H _ I h) fun v s1 ⟨x, H1, I1, r1, q1⟩ => ?_) hs hw
  rw [h1]
  exact thn (hg pins s1 σ H1 x v _ I1 r1 q1) fun _ s2 q => q
theorem ps_set {i : Nat} {x : Str} {e : Expr} {te : TE} {pos' : Pos} (hN : X.N.Nodup) (hi : X.N[i]? = some x) (hx : Loc X.env.scope x) (he : PE X e te) (hs : swapsWith e (some (.Name x pos')) pos.line X.env = pure false := by rfl) (hf : X.fn x = true ∨ X.env.scope.names.lookup x = some .local := by first | exact .inl rfl | exact .inr rfl | assumption) :
    PS X (.Assign [.Name x pos'] e pos) (tAsg te (gName i)) := by
  intro pins s σ H D I h
  refine wpAny_Assign_Name (thn (he pins s σ H _ I h) fun v s1 ⟨y, H1, I1, r1, q1⟩ => ?_) hs
  exact store_ok I1 hN hi hx r1 (fun s2 I2 => ⟨_, H1, I2, q1⟩) hf
def tPar (i j : Nat) (ta : TA) : TS := fun D σ H => ta σ H fun vs H1 => ∃ v w, vs = [v, w] ∧ D.nx ((σ.set i (some v)).set j (some w)) H1
theorem ps_par {i j : Nat} {x y : Str} {a b : Expr} {ta : TA} {px py pt : Pos} {kt k2 pt2} (hc : X.calm = true) (hN : X.N.Nodup) (hi : X.N[i]? = some x) (hj : X.N[j]? = some y) (hij : i ≠ j)
    (hx : X.env.scope.names.lookup x = some .local) (hy : X.env.scope.names.lookup y = some .local) (ha : PA X [a, b] ta)
    (hw : swappedStores [.Tuple [.Name x px, .Name y py] kt pt] (.Tuple [a, b] k2 pt2) X.env = pure (some [x, y]))
    (hs : swapsWithSole [.Tuple [.Name x px, .Name y py] kt pt] (.Tuple [a, b] k2 pt2) pos.line X.env = pure false := by rfl) :
    PS X (.Assign [.Tuple [.Name x px, .Name y py] kt pt] (.Tuple [a, b] k2 pt2) pos) (tPar i j ta) := by
  intro pins s σ H D I h
  rw [exec_Assign_arm]
  refine wpAny_bind (wpAny_standAt ?_)
  rw [hs]
  refine wpAny_bind (wpAny_pure ?_)
  rw [if_neg (by decide)]
  refine wpAny_bind (Tuple_ (thn (ha _ pins s σ H _ I h) fun us s1 ⟨vs, H1, I1, r1, q1⟩ => ?_))
  obtain ⟨v, w, e1, q1⟩ := q1
  subst e1
  obtain ⟨u1, u2, rfl, rv, rw'⟩ : ∃ u1 u2, us = [u1, u2] ∧ RelV v u1 ∧ RelV w u2 := by
    cases r1 with
    | cons p q =>
      cases q with
      | cons p' q' =>
        cases q'
        exact ⟨_, _, rfl, p, p'⟩
  refine wpAny_newObj_type ?_ (by show 2 ≤ sizeLine; decide)
  have I2 : Inv X pins σ H1 { s1 with heap := s1.heap.push { cls := .type "tuple", data := .seq [u1, u2].toArray } } := I1.kept (t' := s1.toks) fun b o e => Heap.get?_push_of_some _ e
  rw [hw]
  refine wpAny_bind (wpAny_pure ?_)
  show wpAny (model X.prog X.w) X.A (do rule "assign.swapped-stores"; let items ← unpackItems (.ref s1.heap.objs.size) 2 none; assignInOrder [fun v => bindName X.env y v, fun v => bindName X.env x v] items.reverse; pure Flow.next) _ _ _
  refine wpAny_bind (wpAny_rule (wpAny_bind (unpackItems_tuple (items := #[u1, u2]) (I.ok.hd hc) (IsTup.new s1.heap _) fun h' hx' => ?_)))
  have I3 := I2.kept (h' := h') (t' := s1.toks) fun b o e => hx' b o (Nat.ne_of_lt (Heap.lt_size e)) e
  show wpAny _ _ (assignInOrder [fun v => bindName X.env y v, fun v => bindName X.env x v] [u2, u1] >>= fun _ => pure Flow.next) _ _ _
  refine wpAny_bind (assignInOrder_cons (wpAny_bindName (store_ok I3 hN hj (.inl hy) rw' (fun s2 I4 => ?_) (.inr hy))))
  refine assignInOrder_cons (wpAny_bindName (store_ok I4 hN hi (.inl hx) rv (fun s3 I5 => assignInOrder_nil (wpAny_pure ?_)) (.inr hx)))
  rw [List.set_comm _ _ (Ne.symm hij)] at I5
  exact ⟨_, H1, I5, q1⟩
end
section
variable {X : Cx} {pos : Pos}
def tWhile (c : TT) (tb : TS) : TS := fun D σ H => ∃ W : Nat → St → Hp → Prop, (∃ m, W m σ H) ∧ ∀ m σ H, W m σ H →
  c σ H fun b H1 => if b = true then ∃ N : St → Hp → Prop, (∀ σ' H', N σ' H' → ∃ m', m' < m ∧ W m' σ' H') ∧ tb { D with nx := N, ct := N, bk := D.nx } σ H1 else D.nx σ H1
theorem ps_while {c : Expr} {body : List Stmt} {tc : TT} {tb : TS} (hp : PassesOwn (model X.prog X.w) X.A X.env X.xe) (hc : PT X c tc) (hb : PSs X body tb) : PS X (.While c body [] pos) (tWhile tc tb) := by
  intro pins s σ H D I h
  obtain ⟨W, ⟨m0, w0⟩, turn⟩ := h
  refine wpAny_While (codeAny_whileLoop (fun n s' => ∃ σ' H', Inv X pins σ' H' s' ∧ W n σ' H') ?_ m0 ⟨σ, H, I, w0⟩)
  rintro n s1 ⟨σ1, H1, I1, w1⟩
  refine wpAny_passesOwn hp (thn (hc pins s1 σ1 H1 _ I1 (turn n σ1 H1 w1)) fun b s2 ⟨H2, I2, q2⟩ => ?_)
  cases b with
  | true =>
    obtain ⟨N, hN, q2⟩ := q2
    rw [if_pos rfl]
    refine wpAny_passesOwn hp (thn (hb pins s2 σ1 H2 _ I2 q2) fun f s3 q3 => ?_)
    cases f with
    | next =>
      obtain ⟨σ3, H3, I3, n3⟩ := q3
      obtain ⟨m', hm, w3⟩ := hN σ3 H3 n3
      exact ⟨m', hm, σ3, H3, I3, w3⟩
    | cont =>
      obtain ⟨σ3, H3, I3, n3⟩ := q3
      obtain ⟨m', hm, w3⟩ := hN σ3 H3 n3
      exact ⟨m', hm, σ3, H3, I3, w3⟩
    | brk => exact q3
    | ret v => exact q3
  | false =>
    rw [if_neg Bool.false_ne_true]
    exact wpAny_execs_nil ⟨σ1, H2, I2, q2⟩
end
structure It where
  go : Nat → Hp → Prop
  yld : Nat → Hp → V → Hp → Prop
  stop : Nat → Hp → Prop
def FpOk (X : Cx) (pins : List (Addr × Obj)) (H : Hp) (b : Addr) : Prop :=
  H b = none ∧ b ≠ X.env.locals ∧ b ∉ X.fs ∧ (b ∈ X.ex ∨ X.s₀.heap.objs.size ≤ b) ∧ (∀ x c, X.env.cells.lookup x = some c → c ≠ b) ∧ ∀ p ∈ X.pn ++ pins, p.1 ≠ b
theorem Inv.fpOk {X : Cx} {pins : List (Addr × Obj)} {σ : St} {H H' : Hp} {s : Shared} {b : Addr} (I : Inv X pins σ H s) (hb : s.heap.objs.size ≤ b) (hn : H' b = none) : FpOk X pins H' b := by
  refine ⟨hn, Nat.ne_of_gt (Nat.lt_of_lt_of_le I.lt hb), I.nofs hb, .inr (Nat.le_trans I.sz hb), fun x c e z => ?_, fun p hp z => ?_⟩
  · obtain ⟨v, q⟩ := I.cell x c e
    exact absurd (Nat.lt_of_lt_of_le q.lt (by rw [z]; exact hb)) (Nat.lt_irrefl _)
  · exact absurd (Nat.lt_of_lt_of_le (Heap.lt_size (I.pin p hp).1) (by rw [z]; exact hb)) (Nat.lt_irrefl _)
structure Turn (P : Program) (w : World) (K : PySem.W.Frag) (tg : Expr) (J : It) (fp : List Addr) (it : Addr) (tn : Nat → Heap → Prop) : Prop where
  mem : it ∈ fp
  obj : ∀ i h, tn i h → ∀ b ∈ fp, ∃ o, h.get? b = some o ∧ ∀ v, o.data ≠ .cell v
  keep : ∀ i h h', tn i h → (∀ b ∈ fp, ∀ o, h.get? b = some o → h'.get? b = some o) → tn i h'
  item : ∀ (X : Cx), X.prog = P → X.w = w → X.K = K → X.calm = true → ∀ (i : Nat) (pins : List (Addr × Obj)) (s : Shared) (σ : St) (H : Hp) (E : Value → Shared → Prop), Inv X pins σ H s → (∀ b ∈ fp, FpOk X pins H b) → tn i s.heap → J.go i H →
    wpAny (model P w) X.A (pyNext (.ref it)) (fun r s1 => ∃ u, r = some u ∧
      wpAny (model P w) X.A (letOwnedTupleGo tg (.ref it) u) (fun _ s2 => ∃ x H', Inv X pins σ H' s2 ∧ RelV x u ∧ J.yld i H x H' ∧ tn (i + 1) s2.heap ∧ ∀ b ∈ fp, H' b = none) E s1) E s
  done : ∀ (X : Cx), X.prog = P → X.w = w → X.K = K → X.calm = true → ∀ (i : Nat) (pins : List (Addr × Obj)) (s : Shared) (σ : St) (H : Hp) (E : Value → Shared → Prop), Inv X pins σ H s → (∀ b ∈ fp, FpOk X pins H b) → tn i s.heap → J.stop i H →
    wpAny (model P w) X.A (pyNext (.ref it)) (fun r s1 => r = none ∧ Inv X pins σ H s1) E s
  self : ∀ (A : Around) (i : Nat) (s : Shared) (Q : Value → Shared → Prop) (E : Value → Shared → Prop), tn i s.heap → Q (.ref it) s → wpAny (model P w) A (pyIter (.ref it)) Q E s
abbrev TI := St → Hp → (It → Hp → Prop) → Prop
def PIE (X : Cx) (pins : List (Addr × Obj)) (σ : St) (tg : Expr) (R : It → Hp → Prop) (itv : Value) (s2 : Shared) : Prop :=
  ∃ (it : Addr) (fp : List Addr) (tn : Nat → Heap → Prop) (J : It) (H' : Hp), itv = .ref it ∧ Inv X pins σ H' s2 ∧ Turn X.prog X.w X.K tg J fp it tn ∧ tn 0 s2.heap ∧ (∀ b ∈ fp, FpOk X pins H' b) ∧ R J H'
def PI (X : Cx) (tg iter : Expr) (wi : TI) : Prop :=
  ∀ (pins : List (Addr × Obj)) (s : Shared) (σ : St) (H : Hp) (R : It → Hp → Prop), Inv X pins σ H s → wi σ H R →
    wpAny (model X.prog X.w) X.A (eval iter X.env) (fun v s1 => wpAny (model X.prog X.w) X.A (pyIter v) (PIE X pins σ tg R) X.xe s1) X.xe s
theorem go_of {M : Model} {A : Around} {E : Value → Shared → Prop} {s : Shared} {tg : Expr} {it : Addr} {u : Value} {o : Obj} {n : String} {vs : Array Value} {Q : Unit → Shared → Prop} (ho : s.heap.get? it = some o) (hc : o.cls = .type n) (hd : o.data = .fields vs)
    (hn : ["enumerate", "zip", "dict_itemiterator", "dict_reverseitemiterator", "odict_iterator", "itertools.zip_longest", "itertools.pairwise"].contains n = false) (hQ : Q () s) : wpAny M A (letOwnedTupleGo tg (.ref it) u) Q E s := by
  unfold letOwnedTupleGo
  cases tg <;> first
    | exact wpAny_pure hQ
    | (cases u <;> first
        | exact wpAny_pure hQ
        | (refine wpAny_bind (wpAny_load ho ?_)
           rw [hc, hd]
           show wpAny M A (if (["enumerate", "zip", "dict_itemiterator", "dict_reverseitemiterator", "odict_iterator", "itertools.zip_longest", "itertools.pairwise"].contains n && vs[0]? == some (rawInt _)) = true then _ else _) Q E s
           rw [if_neg (by intro h; rw [hn, Bool.false_and] at h; cases h)]
           exact wpAny_pure hQ))
def Itl (K : PySem.W.Frag) (a : Addr) : It :=
  ⟨fun i H => ∃ xs x, SqL K H a xs ∧ xs[i]? = some x, fun i H x H' => H' = H ∧ ∀ xs, SqL K H a xs → xs[i]? = some x, fun i H => ∃ xs, SqL K H a xs ∧ xs.length ≤ i⟩
def Itt (K : PySem.W.Frag) (a : Addr) : It :=
  ⟨fun i H => ∃ xs x, SqT K H a xs ∧ xs[i]? = some x, fun i H x H' => H' = H ∧ ∀ xs, SqT K H a xs → xs[i]? = some x, fun i H => ∃ xs, SqT K H a xs ∧ xs.length ≤ i⟩
theorem turn_list {P : Program} {w : World} {K : PySem.W.Frag} {tg : Expr} (a it : Addr) : Turn P w K tg (Itl K a) [it] it (fun i h => h.IsListIter it a i) where
  mem := by simp
  obj := fun i h st b hb => by
    have e : b = it := by simpa using hb
    subst e
    obtain ⟨o, e, c, d⟩ := st
    exact ⟨o, e, fun v z => by rw [d] at z; cases z⟩
  keep := fun i h h' st k => st.at fun o e => k it (by simp) o e
  item := by
    intro X hP hw hK hc i pins s σ H E I hf st hg
    subst hP hw hK
    obtain ⟨xs, x, hq, hx⟩ := hg
    obtain ⟨its, rv, p, hz⟩ := I.list hq
    obtain ⟨u, hu, ru⟩ := rv.get hx
    obtain ⟨f0, f1, f2, f3, f4, f5⟩ := hf it (by simp)
    refine wpAny_pyNext_list_item st p.isList (x := u) (by simpa using hu) fun h' st' sb => ?_
    have I1 : Inv X pins σ H { s with heap := h' } := I.turned (t' := s.toks) (fun b o hb e => (sb.2 b hb).trans e) f0 f1 f3 f4 f5
    obtain ⟨o, e, c, d⟩ := id st'
    exact ⟨u, rfl, go_of (s := { s with heap := h' }) e c d (by decide) ⟨x, H, I1, ru, ⟨rfl, fun ys hy => by rw [I.list_inj hy hq]; exact hx⟩, st', fun b hb => (hf b hb).1⟩⟩
  done := by
    intro X hP hw hK hc i pins s σ H E I hf st hg
    subst hP hw hK
    obtain ⟨xs, hq, hx⟩ := hg
    obtain ⟨its, rv, p, hz⟩ := I.list hq
    obtain ⟨f0, f1, f2, f3, f4, f5⟩ := hf it (by simp)
    have hl := rv.length
    exact wpAny_pyNext_list_end (I.ok.hd hc) st p.isList (by simp; omega) fun h' eb => ⟨rfl, I.turned (t' := s.toks) (fun b o hb e => eb b o hb e) f0 f1 f3 f4 f5⟩
  self := fun _ _ _ _ _ st h => wpAny_pyIter_listiter st h
theorem turn_tuple {P : Program} {w : World} {K : PySem.W.Frag} {tg : Expr} (a it : Addr) : Turn P w K tg (Itt K a) [it] it (fun i h => h.IsTupleIter it a i) where
  mem := by simp
  obj := fun i h st b hb => by
    have e : b = it := by simpa using hb
    subst e
    obtain ⟨o, e, c, d⟩ := st
    exact ⟨o, e, fun v z => by rw [d] at z; cases z⟩
  keep := fun i h h' st k => st.at fun o e => k it (by simp) o e
  item := by
    intro X hP hw hK hc i pins s σ H E I hf st hg
    subst hP hw hK
    obtain ⟨xs, x, hq, hx⟩ := hg
    obtain ⟨its, rv, p, hz⟩ := I.tuple hq
    obtain ⟨u, hu, ru⟩ := rv.get hx
    obtain ⟨f0, f1, f2, f3, f4, f5⟩ := hf it (by simp)
    refine wpAny_pyNext_tuple_item st (show s.heap.IsTuple a its.toArray from p) (x := u) (by simpa using hu) fun h' st' sb => ?_
    have I1 : Inv X pins σ H { s with heap := h' } := I.turned (t' := s.toks) (fun b o hb e => (sb.2 b hb).trans e) f0 f1 f3 f4 f5
    obtain ⟨o, e, c, d⟩ := id st'
    exact ⟨u, rfl, go_of (s := { s with heap := h' }) e c d (by decide) ⟨x, H, I1, ru, ⟨rfl, fun ys hy => by rw [I.tuple_inj hy hq]; exact hx⟩, st', fun b hb => (hf b hb).1⟩⟩
  done := by
    intro X hP hw hK hc i pins s σ H E I hf st hg
    subst hP hw hK
    obtain ⟨xs, hq, hx⟩ := hg
    obtain ⟨its, rv, p, hz⟩ := I.tuple hq
    obtain ⟨f0, f1, f2, f3, f4, f5⟩ := hf it (by simp)
    have hl := rv.length
    exact wpAny_pyNext_tuple_end (I.ok.hd hc) st (show s.heap.IsTuple a its.toArray from p) (by simp; omega) fun h' eb => ⟨rfl, I.turned (t' := s.toks) (fun b o hb e => eb b o hb e) f0 f1 f3 f4 f5⟩
  self := fun _ _ _ _ _ st h => wpAny_pyIter_tupleiter st h
end L2
namespace L2
open PySem PySem.Spec PyProof.Rows
section
variable {X : Cx} {tg : Expr}
def iList (K : PySem.W.Frag) (tl : TE) : TI := fun σ H R => tl σ H fun x H1 => ∃ a, x = .ref a ∧ (∃ xs, SqL K H1 a xs) ∧ R (Itl K a) H1
def iTup (K : PySem.W.Frag) (tl : TE) : TI := fun σ H R => tl σ H fun x H1 => ∃ a, x = .ref a ∧ (∃ xs, SqT K H1 a xs) ∧ R (Itt K a) H1
theorem pi_list {l : Expr} {tl : TE} (hl : PE X l tl) : PI X tg l (iList X.K tl) := by
  intro pins s σ H R I h
  refine thn (hl pins s σ H _ I h) fun v s1 ⟨x, H1, I1, r1, q1⟩ => ?_
  obtain ⟨a, e, ⟨xs, hq⟩, q⟩ := q1
  subst e
  cases r1
  obtain ⟨its, rv, p, hz⟩ := I1.list hq
  refine wpAny_pyIter_list p.isList ?_
  refine ⟨s1.heap.objs.size, [s1.heap.objs.size], _, _, H1, rfl, I1.kept (t' := s1.toks) fun b o e => Heap.get?_push_of_some _ e, turn_list a _, ⟨_, Heap.get?_push_size _ rfl, rfl, rfl⟩, fun b hb => ?_, q⟩
  have e : b = s1.heap.objs.size := by simpa using hb
  subst e
  exact I1.fpOk (Nat.le_refl _) (I1.hok.fresh (Nat.le_refl _))
theorem pi_tup {l : Expr} {tl : TE} (hl : PE X l tl) : PI X tg l (iTup X.K tl) := by
  intro pins s σ H R I h
  refine thn (hl pins s σ H _ I h) fun v s1 ⟨x, H1, I1, r1, q1⟩ => ?_
  obtain ⟨a, e, ⟨xs, hq⟩, q⟩ := q1
  subst e
  cases r1
  obtain ⟨its, rv, p, hz⟩ := I1.tuple hq
  refine wpAny_pyIter_tuple (show s1.heap.IsTuple a its.toArray from p) ?_
  refine ⟨s1.heap.objs.size, [s1.heap.objs.size], _, _, H1, rfl, I1.kept (t' := s1.toks) fun b o e => Heap.get?_push_of_some _ e, turn_tuple a _, ⟨_, Heap.get?_push_size _ rfl, rfl, rfl⟩, fun b hb => ?_, q⟩
  have e : b = s1.heap.objs.size := by simpa using hb
  subst e
  exact I1.fpOk (Nat.le_refl _) (I1.hok.fresh (Nat.le_refl _))
def tFor (wi : TI) (g : TG) (tb : TS) : TS := fun D σ H => wi σ H fun J H1 => ∃ W : Nat → Nat → St → Hp → Prop, (∃ m, W 0 m σ H1) ∧ ∀ i m σ H, W i m σ H →
  (J.stop i H ∧ D.nx σ H) ∨ (J.go i H ∧ ∃ N : St → Hp → Prop, (∀ σ' H', N σ' H' → ∃ m', m' < m ∧ W (i + 1) m' σ' H') ∧ ∀ x H', J.yld i H x H' → g x σ H' fun σ2 H2 => tb { D with nx := N, ct := N, bk := D.nx } σ2 H2)
def pinsAt (fp : List Addr) (h : Heap) : List (Addr × Obj) := fp.filterMap fun b => (h.get? b).map fun o => (b, o)
theorem mem_pinsAt {fp : List Addr} {h : Heap} {b : Addr} {o : Obj} (hb : b ∈ fp) (e : h.get? b = some o) : (b, o) ∈ pinsAt fp h := List.mem_filterMap.mpr ⟨b, hb, by rw [e]; rfl⟩
theorem of_pinsAt {fp : List Addr} {h : Heap} {p : Addr × Obj} (hp : p ∈ pinsAt fp h) : p.1 ∈ fp ∧ h.get? p.1 = some p.2 := by
  obtain ⟨b, hb, e⟩ := List.mem_filterMap.mp hp
  cases q : h.get? b with
  | none => rw [q] at e; cases e
  | some o =>
    rw [q] at e
    have e' : (b, o) = p := Option.some.inj e
    subst e'
    exact ⟨hb, q⟩
theorem Inv.pinned {pins : List (Addr × Obj)} {σ : St} {H : Hp} {s : Shared} {fp : List Addr} (I : Inv X pins σ H s) (hf : ∀ b ∈ fp, FpOk X pins H b) (ho : ∀ b ∈ fp, ∃ o, s.heap.get? b = some o ∧ ∀ v, o.data ≠ .cell v) : Inv X (pins ++ pinsAt fp s.heap) σ H s :=
  I.pins_of fun p hp => (List.mem_append.mp hp).elim (fun z => I.pin p (List.mem_append_right _ z)) fun z => by
    obtain ⟨hb, e⟩ := of_pinsAt z
    obtain ⟨f0, f1, f2, _⟩ := hf p.1 hb
    obtain ⟨o, e', d⟩ := ho p.1 hb
    rw [e] at e'; cases e'
    exact ⟨e, f0, f1, f2, d⟩
theorem Inv.unpinned {pins pl : List (Addr × Obj)} {σ : St} {H : Hp} {s : Shared} (I : Inv X (pins ++ pl) σ H s) : Inv X pins σ H s := I.pins_of fun p hp => I.pin p (List.mem_append_right _ (List.mem_append_left _ hp))
theorem ps_for {iter : Expr} {body : List Stmt} {wi : TI} {g : TG} {tb : TS} {pos : Pos} (hp : PassesOwn (model X.prog X.w) X.A X.env X.xe) (hc : X.calm = true) (hi : PI X tg iter wi) (hg : PG X tg g) (hb : PSs X body tb)
    (hs : ∀ x, foldedSetIterable iter X.env x = pure x := by intro _; rfl) : PS X (.For tg iter body [] pos) (tFor wi g tb) := by
  intro pins s σ H D I h
  refine wpAny_For (thn (hi pins s σ H _ I h) fun v s1 h1 => thn h1 fun itv s2 h2 => ?_) hs
  obtain ⟨it, fp, tn, J, H2, e, I2, T, st2, f2, W, ⟨m0, w0⟩, turn⟩ := h2
  subst e
  -- what stays true of the iterator's objects through the loop
  have stat : ∀ {H' : Hp}, (∀ b ∈ fp, H' b = none) → ∀ b ∈ fp, FpOk X pins H' b := fun hn b hb => ⟨hn b hb, (f2 b hb).2⟩
  refine codeAny_forLoop_any (fun n s' => ∃ i σ' H', Inv X pins σ' H' s' ∧ tn i s'.heap ∧ (∀ b ∈ fp, H' b = none) ∧ W i n σ' H') ?_ m0 ⟨0, σ, H2, I2, st2, fun b hb => (f2 b hb).1, w0⟩
  rintro n s3 ⟨i, σ3, H3, I3, st3, fr3, w3⟩
  rcases turn i n σ3 H3 w3 with ⟨stop, qn⟩ | ⟨go, N, hN, step⟩
  · refine wpAny_passesOwn hp (thn (T.done X rfl rfl rfl hc i pins s3 σ3 H3 X.xe I3 (stat fr3) st3 stop) fun r s4 ⟨hr, I4⟩ => ?_)
    subst hr
    exact wpAny_execs_nil ⟨σ3, H3, I4, qn⟩
  · refine wpAny_passesOwn hp (thn (T.item X rfl rfl rfl hc i pins s3 σ3 H3 X.xe I3 (stat fr3) st3 go) fun r s4 ⟨u, hr, h4⟩ => ?_)
    subst hr
    refine wpAny_passesOwn hp (thn h4 fun _ s5 ⟨x, H5, I5, r5, y5, st5, fr5⟩ => ?_)
    have I5' := I5.pinned (stat fr5) (T.obj _ _ st5)
    refine wpAny_passesOwn hp (thn (hg _ s5 σ3 H5 x u _ I5' r5 (step x H5 y5)) fun _ s6 ⟨σ6, H6, I6, q6⟩ => ?_)
    refine wpAny_passesOwn hp (thn (hb _ s6 σ6 H6 _ I6 q6) fun f s7 q7 => ?_)
    have again : ∀ {σ7 : St} {H7 : Hp}, Inv X (pins ++ pinsAt fp s5.heap) σ7 H7 s7 → N σ7 H7 → ∃ m, m < n ∧ ∃ i σ' H', Inv X pins σ' H' s7 ∧ tn i s7.heap ∧ (∀ b ∈ fp, H' b = none) ∧ W i m σ' H' := fun {σ7 H7} I7 n7 => by
      obtain ⟨m', hm, w7⟩ := hN σ7 H7 n7
      refine ⟨m', hm, i + 1, σ7, H7, I7.unpinned, T.keep _ _ _ st5 fun b hb o e => (I7.pin (b, o) (List.mem_append_right _ (List.mem_append_right _ (mem_pinsAt hb e)))).1, fun b hb => ?_, w7⟩
      obtain ⟨o, e, d⟩ := T.obj _ _ st5 b hb
      exact (I7.pin (b, o) (List.mem_append_right _ (List.mem_append_right _ (mem_pinsAt hb e)))).2.1
    cases f with
    | next => obtain ⟨σ7, H7, I7, n7⟩ := q7; exact again I7 n7
    | cont => obtain ⟨σ7, H7, I7, n7⟩ := q7; exact again I7 n7
    | brk => obtain ⟨σ7, H7, I7, q7⟩ := q7; exact ⟨σ7, H7, I7.unpinned, q7⟩
    | ret v => obtain ⟨x7, σ7, H7, I7, r7, q7⟩ := q7; exact ⟨x7, σ7, H7, I7.unpinned, r7, q7⟩
end
theorem for_list {K : PySem.W.Frag} {a : Addr} {xs : List V} {g : TG} {tb : TS} {D : Ends} {σ : St} {H : Hp} (Pv : Nat → St → Hp → Prop) (h0 : Pv 0 σ H) (hl : ∀ i σ H, i ≤ xs.length → Pv i σ H → SqL K H a xs)
    (hs : ∀ i x σ H, xs[i]? = some x → Pv i σ H → g x σ H fun σ2 H2 => tb { D with nx := Pv (i + 1), ct := Pv (i + 1), bk := D.nx } σ2 H2) (hd : ∀ σ H, Pv xs.length σ H → D.nx σ H) :
    ∃ W : Nat → Nat → St → Hp → Prop, (∃ m, W 0 m σ H) ∧ ∀ i m σ H, W i m σ H →
      ((Itl K a).stop i H ∧ D.nx σ H) ∨ ((Itl K a).go i H ∧ ∃ N : St → Hp → Prop, (∀ σ' H', N σ' H' → ∃ m', m' < m ∧ W (i + 1) m' σ' H') ∧ ∀ x H', (Itl K a).yld i H x H' → g x σ H' fun σ2 H2 => tb { D with nx := N, ct := N, bk := D.nx } σ2 H2) := by
  refine ⟨fun i m σ H => m = xs.length - i ∧ i ≤ xs.length ∧ Pv i σ H, ⟨xs.length, by simp, Nat.zero_le _, h0⟩, ?_⟩
  rintro i m σ H ⟨rfl, hi, p⟩
  have q := hl i σ H hi p
  by_cases hlt : i < xs.length
  · refine .inr ⟨⟨xs, xs[i], q, by simp [hlt]⟩, Pv (i + 1), fun σ' H' p' => ⟨xs.length - (i + 1), by omega, rfl, hlt, p'⟩, fun x H' y => ?_⟩
    obtain ⟨e, y⟩ := y
    subst e
    exact hs i x σ _ (y xs q) p
  · have e : i = xs.length := by omega
    subst e
    exact .inl ⟨⟨xs, q, Nat.le_refl _⟩, hd σ H p⟩
end L2
namespace L2
open PySem PySem.Spec PyProof.Rows
abbrev R2 := V → V → Hp → VK → Prop
def OpR (X : Cx) (f : Value → Value → Sem Value) (r : R2) : Prop :=
  ∀ (pins : List (Addr × Obj)) (s : Shared) (σ : St) (H : Hp) (x y : V) (v u : Value) (Q : VK), Inv X pins σ H s → RelV x v → RelV y u → r x y H Q →
    wpAny (model X.prog X.w) X.A (f v u) (EP X pins σ Q) X.xe s
def CallR (X : Cx) (f : Value) (r : List V → Hp → VK → Prop) : Prop :=
  ∀ (pins : List (Addr × Obj)) (s : Shared) (σ : St) (H : Hp) (xs : List V) (us : List Value) (Q : VK), Inv X pins σ H s → Vals xs us → r xs H Q →
    wpAny (model X.prog X.w) X.A (call f us) (EP X pins σ Q) X.xe s
def tOp (r : R2) (ta tb : TE) : TE := fun σ H Q => ta σ H fun x H1 => tb σ H1 fun y H2 => r x y H2 Q
def rI (C : Int → Int → Prop) (g : Int → Int → V) : R2 := fun x y H Q => ∃ i j, x = .int i ∧ y = .int j ∧ C i j ∧ Q (g i j) H
def rI0 (g : Int → Int → V) : R2 := fun x y H Q => ∃ i j, x = .int i ∧ y = .int j ∧ Q (g i j) H
section
variable {X : Cx} {a b c : Expr} {ta tb tc : TE} {pos : Pos}
theorem binT (ha : PE X a ta) (hb : PE X b tb) {pins : List (Addr × Obj)} {s : Shared} {σ : St} {H : Hp} {R : V → V → Hp → Prop} (I : Inv X pins σ H s)
    (h : ta σ H fun x H1 => tb σ H1 fun y H2 => R x y H2) {Q : Value → Shared → Prop} {f : Value → Value → Sem Value}
    (hf : ∀ v u s2 x y H2, Inv X pins σ H2 s2 → RelV x v → RelV y u → R x y H2 → wpAny (model X.prog X.w) X.A (f v u) Q X.xe s2) :
    wpAny (model X.prog X.w) X.A (eval a X.env) (fun v s₁ => wpAny (model X.prog X.w) X.A (eval b X.env) (fun u s₂ => wpAny (model X.prog X.w) X.A (f v u) Q X.xe s₂) X.xe s₁) X.xe s := by
  refine thn (ha pins s σ H _ I h) fun v s1 ⟨x, H1, I1, r1, q1⟩ => ?_
  refine thn (hb pins s1 σ H1 _ I1 q1) fun u s2 ⟨y, H2, I2, r2, q2⟩ => ?_
  exact hf v u s2 x y H2 I2 r1 r2 q2
theorem pe_op {op : Operator} {r : R2} (ho : OpR X (binaryOp op) r) (ha : PE X a ta) (hb : PE X b tb) : PE X (.BinOp a op b pos) (tOp r ta tb) := by
  intro pins s σ H Q I h
  exact wpAny_BinOp (binT ha hb I h fun v u s2 x y H2 I2 rx ry q => ho pins s2 σ H2 x y v u Q I2 rx ry q)
theorem opI {f : Value → Value → Sem Value} {C : Int → Int → Prop} {g : Int → Int → Int}
    (rule : ∀ (i j : Int) (t u : Tok) (s : Shared) (Q : Value → Shared → Prop) (E : Value → Shared → Prop), C i j → Q (.int (g i j) s.toks) { s with toks := s.toks + 1 } → wpAny (model X.prog X.w) X.A (f (.int i t) (.int j u)) Q E s) :
    OpR X f (rI C fun i j => .int (g i j)) := by
  intro pins s σ H x y v u Q I rx ry h
  obtain ⟨i, j, rfl, rfl, hc, q⟩ := h
  obtain ⟨t, rfl⟩ := rx
  obtain ⟨t', rfl⟩ := ry
  exact rule i j t t' s _ _ hc ⟨.int (g i j), H, I.tok _, ⟨_, rfl⟩, q⟩
theorem opI0 {f : Value → Value → Sem Value} {g : Int → Int → Int}
    (rule : ∀ (i j : Int) (t u : Tok) (s : Shared) (Q : Value → Shared → Prop) (E : Value → Shared → Prop), Q (.int (g i j) s.toks) { s with toks := s.toks + 1 } → wpAny (model X.prog X.w) X.A (f (.int i t) (.int j u)) Q E s) :
    OpR X f (rI0 fun i j => .int (g i j)) := by
  intro pins s σ H x y v u Q I rx ry h
  obtain ⟨i, j, rfl, rfl, q⟩ := h
  obtain ⟨t, rfl⟩ := rx
  obtain ⟨t', rfl⟩ := ry
  exact rule i j t t' s _ _ ⟨.int (g i j), H, I.tok _, ⟨_, rfl⟩, q⟩
theorem opB0 {f : Value → Value → Sem Value} {g : Int → Int → Bool}
    (rule : ∀ (i j : Int) (t u : Tok) (s : Shared) (Q : Value → Shared → Prop) (E : Value → Shared → Prop), Q (.bool (g i j)) s → wpAny (model X.prog X.w) X.A (f (.int i t) (.int j u)) Q E s) :
    OpR X f (rI0 fun i j => .bl (g i j)) := by
  intro pins s σ H x y v u Q I rx ry h
  obtain ⟨i, j, rfl, rfl, q⟩ := h
  obtain ⟨t, rfl⟩ := rx
  obtain ⟨t', rfl⟩ := ry
  exact rule i j t t' s _ _ ⟨.bl (g i j), H, I, rfl, q⟩
def CDiv (i j : Int) : Prop := 0 < j ∧ j < 1073741824
def CPow (i j : Int) : Prop := 0 ≤ j ∧ j ≤ 1000000 ∧ i.natAbs < 2 ^ 64
def CMul (i j : Int) : Prop := (-(2 ^ 64) < i ∧ i < 2 ^ 64) ∨ (-(2 ^ 64) < j ∧ j < 2 ^ 64)
theorem CMul.ok {i j : Int} (h : CMul i j) : IntMulOk i j := by
  rcases h with ⟨h1, h2⟩ | ⟨h1, h2⟩
  · exact .of_left (intBits_le_64 h1 h2)
  · exact .of_right (intBits_le_64 h1 h2)
theorem op_add : OpR X (binaryOp .Add) (rI0 fun i j => .int (i + j)) := opI0 fun _ _ _ _ _ _ _ q => add_int q
theorem op_sub : OpR X (binaryOp .Sub) (rI0 fun i j => .int (i - j)) := opI0 fun _ _ _ _ _ _ _ q => sub_int q
theorem op_mul : OpR X (binaryOp .Mult) (rI CMul fun i j => .int (i * j)) := opI fun _ _ _ _ _ _ _ hc q => mul_int q hc.ok
theorem op_fdiv : OpR X (binaryOp .FloorDiv) (rI CDiv fun i j => .int (i / j)) := opI fun i j _ _ _ _ _ hc q => by
  have h1 : (0 : Int) < j := hc.1
  have h2 : j < 1073741824 := hc.2
  exact floordiv_int (by omega) (by rw [Int.fdiv_eq_ediv_of_nonneg i (by omega)]; exact q) (.inl (PyProof.noPylong_small (by omega)))
theorem op_mod : OpR X (binaryOp .Mod) (rI (fun _ j => 0 < j) fun i j => .int (i % j)) := opI fun i j _ _ _ _ _ hc q => by
  have h1 : (0 : Int) < j := hc
  exact mod_int' (by omega) (by rw [Int.fmod_eq_emod_of_nonneg i (by omega)]; exact q)
theorem op_pow : OpR X (binaryOp .Pow) (rI CPow fun i j => .int (i ^ j.toNat)) := opI fun _ _ _ _ _ _ _ hc q => pow_int_small hc.1 hc.2.1 hc.2.2 q
end
def scal : V → V → Bool
  | .non, .non => true | .non, .int _ => true | .int _, .non => true | .non, .bl _ => true | .bl _, .non => true | .non, .str _ => true | .str _, .non => true
  | .int _, .int _ => true | .bl _, .bl _ => true | .str _, .str _ => true | .byt _, .byt _ => true
  | .int _, .str _ => true | .str _, .int _ => true | .bl _, .str _ => true | .str _, .bl _ => true
  | _, _ => false
def rEq : R2 := fun x y H Q => scal x y = true ∧ Q (.bl (decide (x = y))) H
def rNe : R2 := fun x y H Q => scal x y = true ∧ Q (.bl (!decide (x = y))) H
theorem dec_int {i j : Int} : decide (V.int i = V.int j) = (i == j) := by
  rw [Bool.eq_iff_iff]
  simp
theorem dec_bl {i j : Bool} : decide (V.bl i = V.bl j) = (i == j) := by
  rw [Bool.eq_iff_iff]
  simp
theorem dec_str {i j : Str} : decide (V.str i = V.str j) = (i == j) := by
  rw [Bool.eq_iff_iff]
  simp
theorem dec_byt {i j : Array UInt8} : decide (V.byt i = V.byt j) = (i.toList == j.toList) := by
  rw [Bool.eq_iff_iff]
  cases i
  cases j
  simp
section
variable {X : Cx} {a b c : Expr} {ta tb tc : TE} {pos : Pos}
theorem fin_bl {pins : List (Addr × Obj)} {σ : St} {H : Hp} {s : Shared} {Q : VK} {k k' : Bool} (I : Inv X pins σ H s) (q : Q (.bl k) H) (e : k = k') : EP X pins σ Q (.bool k') s := by
  subst e
  exact ⟨.bl k, H, I, rfl, q⟩
theorem op_eq : OpR X (compareOp .Eq) rEq := by
  intro pins s σ H x y v u Q I rx ry h
  obtain ⟨hs, q⟩ := h
  cases x with
  | non =>
    cases rx
    cases y with
    | non => cases ry; exact PySem.EqNone.eq_none_none (fin_bl I q (by simp))
    | bl j => cases ry; exact PySem.EqNone.eq_none_bool (fin_bl I q (by simp))
    | int j => obtain ⟨t', rfl⟩ := ry; exact PySem.EqNone.eq_none_int (fin_bl I q (by simp))
    | str j => obtain ⟨t', rfl⟩ := ry; exact PySem.EqNone.eq_none_str (fin_bl I q (by simp))
    | _ => exact absurd (show false = true from hs) Bool.false_ne_true
  | bl i =>
    cases rx
    cases y with
    | non => cases ry; exact PySem.EqNone.eq_bool_none (fin_bl I q (by simp))
    | bl j => cases ry; exact eq_bool (fin_bl I q dec_bl)
    | str j => obtain ⟨t', rfl⟩ := ry; exact PySem.EqMixed.eq_bool_str (fin_bl I q (by simp))
    | _ => exact absurd (show false = true from hs) Bool.false_ne_true
  | int i =>
    obtain ⟨t, rfl⟩ := rx
    cases y with
    | non => cases ry; exact PySem.EqNone.eq_int_none (fin_bl I q (by simp))
    | int j => obtain ⟨t', rfl⟩ := ry; exact eq_int (fin_bl I q dec_int)
    | str j => obtain ⟨t', rfl⟩ := ry; exact PySem.EqMixed.eq_int_str (fin_bl I q (by simp))
    | _ => exact absurd (show false = true from hs) Bool.false_ne_true
  | str i =>
    obtain ⟨t, rfl⟩ := rx
    cases y with
    | non => cases ry; exact PySem.EqNone.eq_str_none (fin_bl I q (by simp))
    | bl j => cases ry; exact PySem.EqMixed.eq_str_bool (fin_bl I q (by simp))
    | int j => obtain ⟨t', rfl⟩ := ry; exact PySem.EqMixed.eq_str_int (fin_bl I q (by simp))
    | str j => obtain ⟨t', rfl⟩ := ry; exact eq_str (fin_bl I q dec_str)
    | _ => exact absurd (show false = true from hs) Bool.false_ne_true
  | byt i =>
    obtain ⟨t, rfl⟩ := rx
    cases y with
    | byt j => obtain ⟨t', rfl⟩ := ry; exact PySem.W.eq_bytes (fin_bl I q dec_byt)
    | _ => exact absurd (show false = true from hs) Bool.false_ne_true
  | _ => cases y <;> exact absurd (show false = true from hs) Bool.false_ne_true
theorem op_ne : OpR X (compareOp .NotEq) rNe := by
  intro pins s σ H x y v u Q I rx ry h
  obtain ⟨hs, q⟩ := h
  cases x with
  | non =>
    cases rx
    cases y with
    | non => cases ry; exact PySem.EqNone.ne_none_none (fin_bl I q (by simp))
    | bl j => cases ry; exact PySem.EqNone.ne_none_bool (fin_bl I q (by simp))
    | int j => obtain ⟨t', rfl⟩ := ry; exact PySem.EqNone.ne_none_int (fin_bl I q (by simp))
    | str j => obtain ⟨t', rfl⟩ := ry; exact PySem.EqNone.ne_none_str (fin_bl I q (by simp))
    | _ => exact absurd (show false = true from hs) Bool.false_ne_true
  | bl i =>
    cases rx
    cases y with
    | non => cases ry; exact PySem.EqNone.ne_bool_none (fin_bl I q (by simp))
    | bl j => cases ry; exact ne_bool (fin_bl I q (congrArg not dec_bl))
    | str j => obtain ⟨t', rfl⟩ := ry; exact PySem.EqMixed.ne_bool_str (fin_bl I q (by simp))
    | _ => exact absurd (show false = true from hs) Bool.false_ne_true
  | int i =>
    obtain ⟨t, rfl⟩ := rx
    cases y with
    | non => cases ry; exact PySem.EqNone.ne_int_none (fin_bl I q (by simp))
    | int j => obtain ⟨t', rfl⟩ := ry; exact ne_int (fin_bl I q (congrArg not dec_int))
    | str j => obtain ⟨t', rfl⟩ := ry; exact PySem.EqMixed.ne_int_str (fin_bl I q (by simp))
    | _ => exact absurd (show false = true from hs) Bool.false_ne_true
  | str i =>
    obtain ⟨t, rfl⟩ := rx
    cases y with
    | non => cases ry; exact PySem.EqNone.ne_str_none (fin_bl I q (by simp))
    | bl j => cases ry; exact PySem.EqMixed.ne_str_bool (fin_bl I q (by simp))
    | int j => obtain ⟨t', rfl⟩ := ry; exact PySem.EqMixed.ne_str_int (fin_bl I q (by simp))
    | str j => obtain ⟨t', rfl⟩ := ry; exact ne_str (fin_bl I q (congrArg not dec_str))
    | _ => exact absurd (show false = true from hs) Bool.false_ne_true
  | byt i =>
    obtain ⟨t, rfl⟩ := rx
    cases y with
    | byt j => obtain ⟨t', rfl⟩ := ry; exact PySem.W.ne_bytes (fin_bl I q (congrArg not dec_byt))
    | _ => exact absurd (show false = true from hs) Bool.false_ne_true
  | _ => cases y <;> exact absurd (show false = true from hs) Bool.false_ne_true
theorem op_lt : OpR X (compareOp .Lt) (rI0 fun i j => .bl (decide (i < j))) := opB0 fun _ _ _ _ _ _ _ q => lt_int q
theorem op_gt : OpR X (compareOp .Gt) (rI0 fun i j => .bl (decide (j < i))) := opB0 fun _ _ _ _ _ _ _ q => gt_int q
theorem op_ge : OpR X (compareOp .GtE) (rI0 fun i j => .bl (decide (j ≤ i))) := opB0 fun _ _ _ _ _ _ _ q => ge_int q
theorem nomark (b : Expr) {op : CmpOp} (h : op ≠ .In := by decide) (h2 : op ≠ .NotIn := by decide) : behindInMarks op b = false := by
  have e1 : (op == CmpOp.In) = false := by cases op <;> first | rfl | exact absurd rfl h
  have e2 : (op == CmpOp.NotIn) = false := by cases op <;> first | rfl | exact absurd rfl h2
  cases b <;> simp [behindInMarks, e1, e2]
theorem pe_cmpR {op : CmpOp} {r : R2} (ho : OpR X (compareOp op) r) (ha : PE X a ta) (hb : PE X b tb) (hm : behindInMarks op b = false) : PE X (.Compare a [op] [b] pos) (tOp r ta tb) := by
  intro pins s σ H Q I h
  exact wpAny_Compare1 (binT ha hb I h fun v u s2 x y H2 I2 rx ry q => ho pins s2 σ H2 x y v u Q I2 rx ry q) hm
def tTest (t : TE) : TT := fun σ H Q => t σ H fun x H' => ∃ k, x = .bl k ∧ Q k H'
theorem pt_cmpR {op : CmpOp} {r : R2} (ho : OpR X (compareOp op) r) (ha : PE X a ta) (hb : PE X b tb) (hm : behindInMarks op b = false) : PT X (.Compare a [op] [b] pos) (tTest (tOp r ta tb)) := by
  intro pins s σ H Q I h
  refine wpAny_isTrue_Compare1 (thn (ha pins s σ H _ I h) fun v s1 ⟨x, H1, I1, r1, q1⟩ => thn (hb pins s1 σ H1 _ I1 q1) fun u s2 ⟨y, H2, I2, r2, q2⟩ =>
    thn (ho pins s2 σ H2 x y v u _ I2 r1 r2 q2) fun c s3 ⟨z, H3, I3, r3, k, e, q3⟩ => ?_) hm
  subst e
  cases r3
  exact wpAny_truthy_bool ⟨H3, I3, q3⟩
theorem line63 : (sizeLine : Nat) < 2 ^ 63 := by rw [sizeLine_eq]; decide
theorem vals1 {x : V} {us : List Value} (r : Vals [x] us) : ∃ u, us = [u] ∧ RelV x u := by
  cases r with
  | cons r1 r2 => cases r2; exact ⟨_, rfl, r1⟩
theorem vals2 {x y : V} {us : List Value} (r : Vals [x, y] us) : ∃ u w', us = [u, w'] ∧ RelV x u ∧ RelV y w' := by
  cases r with
  | cons r1 r2 =>
    cases r2 with
    | cons r3 r4 => cases r4; exact ⟨_, _, rfl, r1, r3⟩
theorem call_abs : CallR X (.builtin "abs") (fun xs H Q => ∃ i, xs = [.int i] ∧ Q (.int (if i < 0 then -i else i)) H) := by
  intro pins s σ H xs us Q I r h
  obtain ⟨i, rfl, q⟩ := h
  obtain ⟨u, rfl, t, rfl⟩ := vals1 r
  exact call_abs_int fun u tk => ⟨.int (if i < 0 then -i else i), H, I.tok _, ⟨_, rfl⟩, q⟩
theorem call_int1 : CallR X (.type "int") (fun xs H Q => (∃ i, xs = [.int i] ∧ Q (.int i) H) ∨ ∃ k, xs = [.bl k] ∧ Q (.int (if k then 1 else 0)) H) := by
  intro pins s σ H xs us Q I r h
  rcases h with ⟨i, rfl, q⟩ | ⟨k, rfl, q⟩
  · obtain ⟨u, rfl, t, rfl⟩ := vals1 r
    exact call_int_int ⟨.int i, H, I, ⟨_, rfl⟩, q⟩
  · obtain ⟨u, rfl, r1⟩ := vals1 r
    cases r1
    exact call_int_bool ⟨.int (if k then 1 else 0), H, I.tok _, ⟨_, rfl⟩, q⟩
end
end L2
namespace L2
open PySem PySem.Spec PyProof.Rows
structure ObjM (h : Heap) (x dx C : Addr) (mA : Str → Option Value) : Prop where
  obj : h.get? x = some (PySem.W.instObj C dx)
  ns : h.Ns1 dx mA
  ne : dx ≠ x
theorem lookIn_ns {h : Heap} {dx : Addr} {mA : Str → Option Value} (n : h.Ns1 dx mA) : ∃ od, h.get? dx = some od ∧ ∀ name, PySem.W.lookIn name od = some (mA name) := by
  obtain ⟨o, es, ep, ho, hd, hk, _, hm⟩ := n
  refine ⟨o, ho, fun name => ?_⟩
  have e := hm name
  unfold nsFind findBy at e
  rw [← Array.find?_toList] at e
  unfold PySem.W.lookIn
  rw [hd]
  dsimp only
  split
  · rename_i y q
    rw [q] at e
    exact congrArg some e
  · rename_i q
    rw [q] at e
    have a : es.toList.any (·.refKey) = false := by
      rw [List.any_eq_false]
      intro y hy
      obtain ⟨z, t, hkey⟩ := hk y (Array.mem_toList_iff.mp hy)
      simp [DictEntry.refKey, hkey]
    have a' : ¬ es.toList.any (·.refKey) = true := by rw [a]; exact Bool.false_ne_true
    rw [if_neg a']
    exact congrArg some e
theorem ObjM.look {h : Heap} {x dx C : Addr} {mA : Str → Option Value} (I : ObjM h x dx C mA) : ∃ od, PySem.W.InstAt h x (PySem.W.instObj C dx) C (some od) ∧ ∀ name, PySem.W.lookIn name od = some (mA name) :=
  let ⟨od, ho, hl⟩ := lookIn_ns I.ns
  ⟨od, ⟨I.obj, rfl, rfl, ho⟩, hl⟩
section
variable {prog : Program} {w : World} {A : Around} {E : Value → Shared → Prop} {s : Shared} {K : PySem.W.Frag} {x dx C f : Addr} {mA : Str → Option Value} {name : Str} {v : Value}
theorem get_map {expr : Bool} {Q : Value → Shared → Prop} (X : K.In s.heap) (I : ObjM s.heap x dx C mA) (hg : PySem.W.plainGet K C name = true) (hh : PySem.W.hasDictIn K C = true)
    (ha : PySem.W.findIn K (.ref C) name = some none) (hv : mA name = some v) (hv' : PySem.W.handedIn v = true) (h : Q v { s with toks := s.toks + 1 }) :
    wpAny (model prog w) A (getAttr (.ref x) name expr) Q E s := by
  obtain ⟨od, J, hl⟩ := I.look
  exact PySem.W.get_value X J (PySem.W.plainGet_of hg).1 (PySem.W.findObj_own hh ha rfl (by rw [hl, hv])) hv' h
theorem get_meth {pl : Sem Bool} {Q : Value × List Value → Shared → Prop} (X : K.In s.heap) (I : ObjM s.heap x dx C mA) (hg : PySem.W.plainGet K C name = true)
    (hf : PySem.W.findIn K (.ref C) name = some (some (.ref f))) (ht : PySem.W.isFn K (.ref f) = true) (hv : mA name = none) (h : Q (.ref f, [.ref x]) s) :
    wpAny (model prog w) A (getMethod (.ref x) name pl) Q E s := by
  obtain ⟨od, J, hl⟩ := I.look
  exact PySem.W.method_fn X J (PySem.W.plainGet_of hg).1 (PySem.W.plainGet_of hg).2 hf (beq_iff_eq.mp ht) (by show (PySem.W.lookIn name od).map (·.isSome) = some false; rw [hl, hv]; rfl) h
theorem set_map {ns : List Str} {Q : Unit → Shared → Prop} (X : K.In s.heap) (I : ObjM s.heap x dx C mA)
    (hs : PySem.W.findIn K (.ref C) "__setattr__" = some (some (.builtin "object.__setattr__"))) (hp : PySem.W.plainOver K C = true) (ht : PySem.W.takerIn K C name = some none) (hh : PySem.W.hasDictIn K C = true)
    (hw : PySem.Within mA ns) (hsz : ns.length ≤ sizeLine)
    (h : ∀ h', ObjM h' x dx C (fun y => if y = name then some v else mA y) → Heap.SameBut dx s.heap h' → Q () { s with heap := h', toks := s.toks + 2 }) :
    wpAny (model prog w) A (setAttr (.ref x) name v) Q E s := by
  obtain ⟨od, J, hl⟩ := I.look
  refine PySem.W.set_plain X J hs (PySem.W.osa_open (s := { s with toks := s.toks + 1 }) (r := none) X J hp ht fun b => ?_)
  obtain ⟨cd, hc, hd'⟩ := PySem.W.any_some hh
  have hx : s.heap.get? x = some ⟨.ref C, some dx, .plain, #[]⟩ := I.obj
  refine wpAny_bind (wpAny_pure (wpAny_bind (wpAny_bind (wpAny_loadPart hx (wpAny_bind (PySem.W.Looks.here (s := { s with toks := s.toks + 1 }) (PySem.W.looks_clsIn X hc) ?_))))))
  rw [hd']
  refine wpAny_pure (a := some dx) (wpAny_bind (wpAny_pure (wpAny_bind ?_)))
  refine wpAny_nsSet1 (s := { s with toks := s.toks + 1 }) I.ns fun h' hn2 hs2 => ?_
  obtain ⟨oD, esD, epD, hoD, hdD, hcD⟩ := hn2.count (PySem.Within.cons name v hw)
  refine wpAny_bind (wpAny_lookBehind hoD (by rw [hdD]; exact pastItsLine_dict (Nat.le_trans hcD (by rw [List.length_cons]; omega))) ?_)
  exact wpAny_pure (h _ ⟨(hs2.2 _ (Ne.symm I.ne)).trans I.obj, hn2, I.ne⟩ hs2)
theorem make_map {R : Result → Shared → Prop} {vs : List Value} {kw : List (Str × Value)} (X : K.In s.heap) (hm : PySem.W.makesIn K C = true)
    (hi : PySem.W.findIn K (.ref C) "__init__" = some (some (.ref f))) (hf : PySem.W.typeIn K (.ref f) = some (.type "function"))
    (h : codeAny (model prog w) (A.under (.builtin "type.__call__" ⟨.ref C :: vs, kw⟩)) (.call (.ref f) ⟨.ref (s.heap.objs.size + 1) :: vs, kw⟩) (PySem.W.InitBack (s.heap.objs.size + 1) R)
      { s with heap := (s.heap.push PySem.W.emptyDict).push (PySem.W.instObj C s.heap.objs.size) }) :
    codeAny (model prog w) A (.call (.ref C) ⟨vs, kw⟩) R s := by
  obtain ⟨hh, g, d, t, os⟩ := s
  exact PySem.W.make_core (PySem.W.makes_of X hm) (PySem.W.looks_findIn X hi) (fun self => PySem.W.bind_fn X self hf) (.inl rfl) h
end
def putF (f : Str) (v : V) : List (Str × V) → List (Str × V)
  | [] => [(f, v)]
  | (g, x) :: r => if g = f then (g, v) :: r else (g, x) :: putF f v r
theorem lookup_putF (f g : Str) (v : V) : ∀ fs : List (Str × V), (putF f v fs).lookup g = if g = f then some v else fs.lookup g
  | [] => by
    show List.lookup g [(f, v)] = _
    by_cases h : g = f
    · have hb : (g == f) = true := beq_iff_eq.mpr h
      simp only [List.lookup, hb, if_pos h]
    · have hb : (g == f) = false := beq_eq_false_iff_ne.mpr h
      simp only [List.lookup, hb, if_neg h]
  | (k, x) :: r => by
    have ih := lookup_putF f g v r
    rw [show putF f v ((k, x) :: r) = (if k = f then (k, v) :: r else (k, x) :: putF f v r) from rfl]
    by_cases hk : k = f
    · rw [if_pos hk]
      by_cases h : g = k
      · have hb : (g == k) = true := beq_iff_eq.mpr h
        simp only [List.lookup, hb, if_pos (h.trans hk)]
      · have hb : (g == k) = false := beq_eq_false_iff_ne.mpr h
        simp only [List.lookup, hb, if_neg (fun e : g = f => h (e.trans hk.symm))]
    · rw [if_neg hk]
      by_cases h : g = k
      · have hb : (g == k) = true := beq_iff_eq.mpr h
        simp only [List.lookup, hb, if_neg (fun e : g = f => hk (h.symm.trans e))]
      · have hb : (g == k) = false := beq_eq_false_iff_ne.mpr h
        simp only [List.lookup, hb]
        exact ih
theorem keys_putF (f : Str) (v : V) : ∀ fs : List (Str × V), f ∈ (putF f v fs).map (·.1) ∧ ∀ g, g ∈ fs.map (·.1) → g ∈ (putF f v fs).map (·.1)
  | [] => ⟨by simp [putF], fun g h => by simp at h⟩
  | (k, x) :: r => by
    obtain ⟨i1, i2⟩ := keys_putF f v r
    rw [show putF f v ((k, x) :: r) = (if k = f then (k, v) :: r else (k, x) :: putF f v r) from rfl]
    by_cases hk : k = f
    · rw [if_pos hk]
      subst hk
      exact ⟨by simp, fun g h => by simpa using h⟩
    · rw [if_neg hk]
      refine ⟨?_, fun g h => ?_⟩
      · rw [List.map_cons]
        exact List.mem_cons_of_mem _ i1
      · rw [List.map_cons] at h ⊢
        rcases List.mem_cons.mp h with e | e
        · exact List.mem_cons.mpr (.inl e)
        · exact List.mem_cons_of_mem _ (i2 g e)
theorem length_putF (f : Str) (v : V) : ∀ fs : List (Str × V), (putF f v fs).length ≤ fs.length + 1
  | [] => by simp [putF]
  | (k, x) :: r => by
    have ih := length_putF f v r
    rw [show putF f v ((k, x) :: r) = (if k = f then (k, v) :: r else (k, x) :: putF f v r) from rfl]
    by_cases hk : k = f
    · rw [if_pos hk, List.length_cons, List.length_cons]; omega
    · rw [if_neg hk, List.length_cons, List.length_cons]; omega
theorem RelO.some_of {v : V} {o : Option Value} (r : RelO (some v) o) : ∃ u, o = some u ∧ RelV v u := by
  cases o with
  | none => exact (show False from r).elim
  | some u => exact ⟨u, rfl, r⟩
theorem RelO.none_of {o : Option Value} (r : RelO none o) : o = none := by
  cases o with
  | none => rfl
  | some u => exact (show False from r).elim
theorem handed_of {v : V} {u : Value} (r : RelV v u) : PySem.W.handedIn u = true := by
  cases v with
  | non => cases (show u = Value.none from r); rfl
  | bl b => cases (show u = Value.bool b from r); rfl
  | int i => obtain ⟨t, e⟩ := (show ∃ t, u = Value.int i t from r); cases e; rfl
  | str x => obtain ⟨t, e⟩ := (show ∃ t, u = Value.str x t from r); cases e; rfl
  | byt b => obtain ⟨t, e⟩ := (show ∃ t, u = Value.bytes b t from r); cases e; rfl
  | flt b => obtain ⟨t, e⟩ := (show ∃ t, u = Value.float b t from r); cases e; rfl
  | ref a => cases (show u = Value.ref a from r); rfl
  | ty n => cases (show u = Value.type n from r); rfl
section
variable {P : Program} {w : World} {H H' : Hp} {h h' : Heap} {a C dx : Addr} {fs fs' : List (Str × V)}
theorem ins_get (hok : HOk P w H h) (e : H a = some (.ins C dx fs)) : ∃ mA, ObjM h a dx C mA ∧ (∀ f, RelO (fs.lookup f) (mA f)) ∧ PySem.Within mA (fs.map (·.1)) ∧ fs.length ≤ 1000 ∧ H dx = some (.own a) := by
  obtain ⟨d, z, ne, ob, mA, n, r, q⟩ := (show ObjOk P w H h a (.ins C dx fs) from hok a _ e)
  exact ⟨mA, ⟨ob, n, ne⟩, r, q, z, d⟩
end
structure Cls (K : PySem.W.Frag) (C : Addr) : Prop where
  pg : PySem.W.plainGet K C Str.empty = true
  hd : PySem.W.hasDictIn K C = true
  po : PySem.W.plainOver K C = true
  sa : PySem.W.findIn K (.ref C) "__setattr__" = some (some (.builtin "object.__setattr__"))
theorem Cls.get {K : PySem.W.Frag} {C : Addr} (c : Cls K C) (f : Str) : PySem.W.plainGet K C f = true := c.pg
def NoAttr (K : PySem.W.Frag) (C : Addr) (f : Str) : Prop := PySem.W.findIn K (.ref C) f = some none
theorem NoAttr.taker {K : PySem.W.Frag} {C : Addr} {f : Str} (n : NoAttr K C f) : PySem.W.takerIn K C f = some none := by
  unfold PySem.W.takerIn
  rw [show PySem.W.findIn K (.ref C) f = some none from n]
  rfl
structure Meth (K : PySem.W.Frag) (C : Addr) (m : Str) (f : Addr) : Prop where
  at_ : PySem.W.findIn K (.ref C) m = some (some (.ref f))
  fn : PySem.W.isFn K (.ref f) = true
  kp : PySem.W.keepIn K (.ref f) = true
section
variable {X : Cx} {pins : List (Addr × Obj)} {σ : St} {H : Hp} {s : Shared} {a C dx : Addr} {fs : List (Str × V)} {f : Str} {v : V} {A : Around} {E : Value → Shared → Prop}
theorem getattr_ok {b : Bool} {Q : Value → Shared → Prop} (I : Inv X pins σ H s) (e : H a = some (.ins C dx fs)) (c : Cls X.K C) (n : NoAttr X.K C f) (l : fs.lookup f = some v)
    (h : ∀ u s', Inv X pins σ H s' → RelV v u → Q u s') : wpAny (model X.prog X.w) A (getAttr (.ref a) f b) Q E s := by
  obtain ⟨mA, O, r, _, _, _⟩ := ins_get I.hok e
  obtain ⟨u, hu, ru⟩ := RelO.some_of (v := v) (o := mA f) (by rw [← l]; exact r f)
  exact get_map I.kIn O (c.get f) c.hd n hu (handed_of ru) (h u _ (I.tok _) ru)
theorem getmeth_ok {m : Str} {g : Addr} {pl : Sem Bool} {Q : Value × List Value → Shared → Prop} (I : Inv X pins σ H s) (e : H a = some (.ins C dx fs)) (c : Cls X.K C) (k : Meth X.K C m g) (l : fs.lookup m = none)
    (h : Q (.ref g, [.ref a]) s) : wpAny (model X.prog X.w) A (getMethod (.ref a) m pl) Q E s := by
  obtain ⟨mA, O, r, _, _, _⟩ := ins_get I.hok e
  have hn : mA m = none := RelO.none_of (by rw [← l]; exact r m)
  exact get_meth I.kIn O (c.get m) k.at_ k.fn hn h
theorem setattr_ok {y : V} {u : Value} {Q : Unit → Shared → Prop} (I : Inv X pins σ H s) (e : H a = some (.ins C dx fs)) (c : Cls X.K C) (n : NoAttr X.K C f) (hl : fs.length < 1000) (ry : RelV y u)
    (h : ∀ s', Inv X pins σ (upd H a (.ins C dx (putF f y fs))) s' → Q () s') : wpAny (model X.prog X.w) A (setAttr (.ref a) f u) Q E s := by
  obtain ⟨mA, O, r, wi, _, ho⟩ := ins_get I.hok e
  have hz : (fs.map (·.1)).length ≤ sizeLine := by rw [List.length_map, sizeLine_eq]; omega
  refine set_map I.kIn O c.sa c.po n.taker c.hd wi hz fun h' O' sb => h _ ?_
  have hd : ∃ o, h'.get? dx = some o := let ⟨o, _, _, e', _⟩ := O'.ns; ⟨o, e'⟩
  refine I.write (x := a) (e := dx) (by rw [e]; exact True.intro) (.inr ho) (fun b q hb z => (sb.2 b hb).trans z) hd ?_
  refine ⟨by rw [upd_ne O.ne]; exact ho, ?_, O.ne, O'.obj, _, O'.ns, fun g => ?_, fun g hg => ?_⟩
  · have := length_putF f y fs; omega
  · show RelO ((putF f y fs).lookup g) (if g = f then some u else mA g)
    rw [lookup_putF]
    by_cases q : g = f
    · rw [if_pos q, if_pos q]; exact ry
    · rw [if_neg q, if_neg q]; exact r g
  · by_cases q : g = f
    · rw [q]; exact (keys_putF f y fs).1
    · refine (keys_putF f y fs).2 g (wi g fun z => hg ?_)
      show (if g = f then some u else mA g) = none
      rw [if_neg q]; exact z
theorem Inv.made (I : Inv X pins σ H s) : Inv X pins σ (upd (upd H s.heap.objs.size (.own (s.heap.objs.size + 1))) (s.heap.objs.size + 1) (.ins C s.heap.objs.size []))
    { s with heap := (s.heap.push PySem.W.emptyDict).push (PySem.W.instObj C s.heap.objs.size) } := by
  have e1 : (s.heap.push PySem.W.emptyDict).get? s.heap.objs.size = some PySem.W.emptyDict := Heap.get?_push_size s.heap rfl
  have e2 : ((s.heap.push PySem.W.emptyDict).push (PySem.W.instObj C s.heap.objs.size)).get? (s.heap.objs.size + 1) = some (PySem.W.instObj C s.heap.objs.size) := by
    have := Heap.get?_push_size (s.heap.push PySem.W.emptyDict) (o := PySem.W.instObj C s.heap.objs.size) rfl
    rwa [Heap.size_push] at this
  have e3 : (s.heap.push PySem.W.emptyDict).Ns s.heap.objs.size (fun _ => none) := ⟨PySem.W.emptyDict, #[], _, e1, rfl, (fun e he => absurd he (by simp)), fun _ => rfl⟩
  have I1 := I.laid (a := s.heap.objs.size) (o := .own (s.heap.objs.size + 1)) (h' := s.heap.push PySem.W.emptyDict) (t' := s.toks) (fun b u q => Heap.get?_push_of_some _ q) (Nat.le_refl _) ⟨_, e1⟩
  refine I1.laid (a := s.heap.objs.size + 1) (o := .ins C s.heap.objs.size []) (t' := s.toks) (fun b u q => Heap.get?_push_of_some _ q) (Nat.le_of_eq (Heap.size_push _ _)) ?_
  have ne : s.heap.objs.size ≠ s.heap.objs.size + 1 := Nat.ne_of_lt (Nat.lt_succ_self _)
  refine ⟨by rw [upd_ne ne, upd_same], Nat.zero_le _, ne, e2, fun _ => none, (Heap.Ns1.of_empty e3).at fun o q => Heap.get?_push_of_some _ q, fun _ => True.intro, fun y hy => absurd rfl hy⟩
theorem attr_of {prog : Program} {w : World} {env : Env} {e : Expr} {f : Str} {pos : Pos} {s : Shared} {Q : Value → Shared → Prop} (hb : attributeBase e f env (eval e env) = eval e env)
    (h : wpAny (model prog w) A (eval e env) (fun o s₁ => wpAny (model prog w) A (getAttr o f true) Q E s₁) E s) : wpAny (model prog w) A (eval (.Attribute e f pos) env) Q E s :=
  Attribute_any_ h (by rw [arm_eval_Attribute, hb])
end
def tFld (K : PySem.W.Frag) (ta : TE) (f : Str) : TE := fun σ H Q => ta σ H fun x H1 => ∃ a C dx fs v, x = .ref a ∧ H1 a = some (.ins C dx fs) ∧ Cls K C ∧ NoAttr K C f ∧ fs.lookup f = some v ∧ Q v H1
def sFld (K : PySem.W.Frag) (ta tv : TE) (f : Str) : TS := fun D σ H => tv σ H fun y H1 => ta σ H1 fun x H2 => ∃ a C dx fs, x = .ref a ∧ H2 a = some (.ins C dx fs) ∧ Cls K C ∧ NoAttr K C f ∧ fs.length < 1000 ∧
  D.nx σ (upd H2 a (.ins C dx (putF f y fs)))
section
variable {X : Cx} {o e value : Expr} {f : Str} {pos pos' tpos : Pos} {ta tv : TE}
theorem pe_fld (he : PE X e ta) (hb : attributeBase e f X.env (eval e X.env) = eval e X.env) : PE X (.Attribute e f pos) (tFld X.K ta f) := by
  intro pins s σ H Q I h
  refine attr_of hb (thn (he pins s σ H _ I h) fun u s1 ⟨x, H1, I1, rx, a, C, dx, fs, v, ex, ea, c, n, l, q⟩ => ?_)
  subst ex
  obtain rfl : u = Value.ref a := rx
  exact getattr_ok I1 ea c n l fun u' s2 I2 ru => ⟨v, H1, I2, ru, q⟩
theorem ps_fld (ha : PE X o ta) (hv : PE X value tv) (hs : swapsWith value (some (.Attribute o f pos')) pos.line X.env = pure false) : PS X (.Assign [.Attribute o f pos'] value pos) (sFld X.K ta tv f) := by
  intro pins s σ H D I h
  refine plainObj_wpAny_Assign_Attribute (thn (hv pins s σ H _ I h) fun u s1 ⟨y, H1, I1, ry, q⟩ => thn (ha pins s1 σ H1 _ I1 q) fun ov s2 ⟨x, H2, I2, rx, a, C, dx, fs, ex, ea, c, n, l, q2⟩ => ?_) hs
  subst ex
  obtain rfl : ov = Value.ref a := rx
  exact setattr_ok I2 ea c n l ry fun s3 I3 => ⟨σ, _, I3, q2⟩
end
section
variable {X : Cx} {pins : List (Addr × Obj)} {σ : St} {H : Hp} {s : Shared} {A : Around} {E : Value → Shared → Prop} {Q : Value → Shared → Prop} {c : Value} {b : Bool}
inductive TyOf (K : PySem.W.Frag) (H : Hp) : V → Value → Prop where
  | non : TyOf K H .non (.type "NoneType")
  | bl (x : Bool) : TyOf K H (.bl x) (.type "bool")
  | int (i : Int) : TyOf K H (.int i) (.type "int")
  | str (x : Str) : TyOf K H (.str x) (.type "str")
  | flt (x : UInt64) : TyOf K H (.flt x) (.type "float")
  | lst {a : Addr} {xs : List V} (e : H a = some (.lst xs)) : TyOf K H (.ref a) (.type "list")
  | frz {a : Addr} {o : Obj} {xs : List V} (e : H a = some (.frz o (.lst xs))) : TyOf K H (.ref a) (.type "list")
  | tup {a : Addr} {xs : List V} (e : H a = some (.tup xs)) : TyOf K H (.ref a) (.type "tuple")
  | dK {a : Addr} {kvs : List (Key × V)} (e : H a = some (.dK kvs)) : TyOf K H (.ref a) (.type "dict")
  | dT {a : Addr} {kvs : List (List Key × V)} (e : H a = some (.dT kvs)) : TyOf K H (.ref a) (.type "dict")
  | ins {a C dx : Addr} {fs : List (Str × V)} (e : H a = some (.ins C dx fs)) (cl : Cls K C) (ha : PySem.W.findIn K (.ref C) "__class__" = some (some (.builtin "object.__class__")))
      (hn : PySem.W.specialIn K (.builtin "object.__class__") "__get__" = some (some (.builtin "getset_descriptor.__get__"))) (htk : PySem.W.takesIn K (.builtin "object.__class__") = some true)
      (hm : PySem.W.mroIn K C (.type "object") = some true) : TyOf K H (.ref a) (.ref C)
theorem isinst_ok {x : V} {u t : Value} (I : Inv X pins σ H s) (rx : RelV x u) (ty : TyOf X.K H x t) (e : PySem.W.kitOne X.K t c = some b) (h : ∀ tk, Q (.bool b) { s with toks := tk }) :
    wpAny (model X.prog X.w) A (call (.builtin "isinstance") [u, c]) Q E s := by
  cases ty with
  | non => cases (show u = Value.none from rx); exact PySem.W.kia_one PySem.W.kitx_none I.kIn True.intro e (fun z => nomatch z) h
  | bl y => cases (show u = Value.bool y from rx); exact PySem.W.kia_one PySem.W.kitx_bool I.kIn True.intro e (fun z => nomatch z) h
  | int i => obtain ⟨t, q⟩ := (show ∃ t, u = Value.int i t from rx); cases q; exact PySem.W.kia_one PySem.W.kitx_int I.kIn True.intro e (fun z => nomatch z) h
  | str y => obtain ⟨t, q⟩ := (show ∃ t, u = Value.str y t from rx); cases q; exact PySem.W.kia_one PySem.W.kitx_str I.kIn True.intro e (fun z => nomatch z) h
  | flt y => obtain ⟨t, q⟩ := (show ∃ t, u = Value.float y t from rx); cases q; exact PySem.W.kia_one PySem.W.kitx_float I.kIn True.intro e (fun z => nomatch z) h
  | @lst a xs ea =>
    cases (show u = Value.ref a from rx)
    obtain ⟨_, _, n, _, h1⟩ := (show ObjOk X.prog X.w H s.heap a (.lst xs) from I.hok a _ ea)
    exact PySem.W.kia_one PySem.W.kitx_list I.kIn ⟨_, h1, rfl⟩ e (fun z => nomatch z) h
  | @frz a ob xs ea =>
    cases (show u = Value.ref a from rx)
    obtain ⟨_, _, _, n, _, h1⟩ := (show ObjOk X.prog X.w H s.heap a (.frz ob (.lst xs)) from I.hok a _ ea)
    exact PySem.W.kia_one PySem.W.kitx_list I.kIn ⟨_, h1, rfl⟩ e (fun z => nomatch z) h
  | @tup a xs ea =>
    cases (show u = Value.ref a from rx)
    obtain ⟨_, _, _, p⟩ := (show ObjOk X.prog X.w H s.heap a (.tup xs) from I.hok a _ ea)
    obtain ⟨o, h1, h2, _⟩ := p
    exact PySem.W.kia_one PySem.W.kitx_tuple I.kIn ⟨o, h1, h2⟩ e (fun z => nomatch z) h
  | @dK a kvs ea =>
    cases (show u = Value.ref a from rx)
    obtain ⟨_, _, vs, _, p⟩ := (show ObjOk X.prog X.w H s.heap a (.dK kvs) from I.hok a _ ea)
    obtain ⟨o, es, ep, h1, h2, _⟩ := p
    exact PySem.W.kia_one PySem.W.kitx_dict I.kIn ⟨o, h1, h2.1⟩ e (fun z => nomatch z) h
  | @dT a kvs ea =>
    cases (show u = Value.ref a from rx)
    obtain ⟨_, _, xs, _, o, es, ep, h1, h2, _⟩ := (show ObjOk X.prog X.w H s.heap a (.dT kvs) from I.hok a _ ea)
    exact PySem.W.kia_one PySem.W.kitx_dict I.kIn ⟨o, h1, h2.1⟩ e (fun z => nomatch z) h
  | @ins a C dx fs ea cl ha hn htk hm =>
    cases (show u = Value.ref a from rx)
    obtain ⟨mA, O, _⟩ := ins_get I.hok ea
    obtain ⟨od, J, _⟩ := O.look
    exact PySem.W.kia_one (PySem.W.kitx_own (cl.get _) cl.hd ha hn htk hm) I.kIn J e (fun z => nomatch z) h
end
end L2
namespace L2
open PySem PySem.Spec PyProof.Rows
structure Room (k : Nat) (A : Around) : Prop where
  hd : A.handled = none
  dp : A.depth + 3 * k + 5 < recursionLimit
  un : A.units + 16 * k + 200 < cLine
theorem make_depth {A : Around} {C : Addr} {us : List Value} {kw : List (Str × Value)} : (A.under (.builtin "type.__call__" ⟨.ref C :: us, kw⟩)).depth = A.depth + 1 := by
  first | rfl | simp [Around.under, Code.weight, Code.isCreation, Code.isGuard, Code.isCaller, Code.frames, Code.isFrame, guardIds]
theorem make_units {A : Around} {C : Addr} {us : List Value} {kw : List (Str × Value)} : (A.under (.builtin "type.__call__" ⟨.ref C :: us, kw⟩)).units = A.units + 1 := by
  first | rfl | simp [Around.under, Code.cUnits, Code.frames, Code.isFrame]
theorem Room.make {k : Nat} {A : Around} (r : Room (k + 1) A) (C : Addr) (us : List Value) (kw : List (Str × Value)) : Room k (A.under (.builtin "type.__call__" ⟨.ref C :: us, kw⟩)) :=
  ⟨r.hd, by have := r.dp; rw [make_depth]; omega, by have := r.un; rw [make_units]; omega⟩
def tNil : TA := fun _ H Q => Q [] H
def tCons (ta : TE) (tr : TA) : TA := fun σ H Q => ta σ H fun x H1 => tr σ H1 fun xs H2 => Q (x :: xs) H2
section
variable {X : Cx} {e : Expr} {es : List Expr} {te : TE} {t : TA} {pos : Pos}
theorem pa_nil : PA X [] tNil := fun _ _ _ _ H Q I h => Calls.spliced_nil ⟨[], H, I, .nil, h⟩
theorem pa_cons (ha : PE X e te) (hr : PA X es t) (hs : starEach (e :: es) X.env = (false, eval e X.env) :: starEach es X.env := by rfl) : PA X (e :: es) (tCons te t) := by
  intro pos pins s σ H Q I h
  rw [hs]
  show wpAny _ _ (spliced ((false, eval e X.env) :: backTo pos (starEach es X.env))) _ _ s
  refine Calls.spliced_cons (thn (ha pins s σ H _ I h) fun u s1 ⟨x, H1, I1, r1, q1⟩ => ?_)
  exact thn (hr pos pins s1 σ H1 _ I1 q1) fun us s2 ⟨xs, H2, I2, r2, q2⟩ => ⟨x :: xs, H2, I2, .cons r1 r2, q2⟩
def tTup (t : TA) : TE := fun σ H Q => t σ H fun xs H1 => xs.length ≤ sizeLine ∧ ∀ p, H1 p = none → Q (.ref p) (upd H1 p (.tup xs))
def tLst (t : TA) : TE := fun σ H Q => t σ H fun xs H1 => xs.length ≤ sizeLine ∧ ∀ p, H1 p = none → Q (.ref p) (upd H1 p (.lst xs))
theorem pe_tup {x1} (h : PA X es t) : PE X (.Tuple es x1 pos) (tTup t) := by
  intro pins s σ H Q I hq
  refine wpAny_Tuple_spliced (thn (h pos pins s σ H _ I hq) fun us s1 ⟨xs, H1, I1, r, z, q⟩ => ⟨by rw [← r.length]; exact z, ?_⟩)
  have hf : H1 s1.heap.objs.size = none := I1.hok.fresh (Nat.le_refl _)
  refine ⟨.ref s1.heap.objs.size, upd H1 s1.heap.objs.size (.tup xs), I1.laid (t' := s1.toks) (fun b u e => Heap.get?_push_of_some _ e) (Nat.le_refl _) ?_, rfl, q _ hf⟩
  exact ⟨z, us, r, ⟨_, Heap.get?_push_size _ rfl, rfl, _, rfl⟩⟩
theorem pe_lst (h : PA X es t) : PE X (.List es pos) (tLst t) := by
  intro pins s σ H Q I hq
  refine wpAny_List_spliced (thn (h pos pins s σ H _ I hq) fun us s1 ⟨xs, H1, I1, r, z, q⟩ => ⟨by rw [← r.length]; exact z, ?_⟩)
  have hf : H1 s1.heap.objs.size = none := I1.hok.fresh (Nat.le_refl _)
  refine ⟨.ref s1.heap.objs.size, upd H1 s1.heap.objs.size (.lst xs), I1.laid (t' := s1.toks) (fun b u e => Heap.get?_push_of_some _ e) (Nat.le_refl _) ?_, rfl, q _ hf⟩
  exact ⟨z, us, 0, r, Heap.get?_push_size _ rfl⟩
end
abbrev Sp := List V → Hp → VK → XK → Prop
abbrev CXT := List Env → Hp → Shared → XK → Value → Shared → Prop
structure Env0 (P : Program) (w : World) (K : PySem.W.Frag) (mg : Str → Option Value) (base : Heap) (A : Around) (outer : List Env) (s : Shared) (H : Hp) : Prop where
  frames : A.frames = some outer
  mod : Mod K mg base
  bs : ∀ b o, base.get? b = some o → s.heap.get? b = some o ∧ H b = none
  bsz : base.objs.size ≤ s.heap.objs.size
  funs : s.heap.FunFrames base outer
  frf : ∀ b ∈ frs outer, H b = none
  hok : HOk P w H s.heap
  bare : AllBare s.gens
def CE (outer : List Env) (P : Program) (w : World) (H : Hp) (s : Shared) (Q : VK) (u : Value) (s' : Shared) : Prop :=
  ∃ v H', s'.os = s.os ∧ AllBare s'.gens ∧ Un (frs outer) [] H H' s.heap s'.heap ∧ HOk P w H' s'.heap ∧ RelV v u ∧ Q v H'
def CR (CX : CXT) (outer : List Env) (P : Program) (w : World) (H : Hp) (s : Shared) (Q : VK) (E : XK) (r : Result) (s' : Shared) : Prop :=
  match r with
  | .ok (.ret u) => CE outer P w H s Q u s'
  | .ok _ => False
  | .error e => CX outer H s E e s'
structure FnOk (P : Program) (w : World) (K : PySem.W.Frag) (mg : Str → Option Value) (base : Heap) (CX : CXT) (k : Nat) (f : Addr) (fd : FuncData) (ps : List Str) (sp : Sp) : Prop where
  len : ∀ vs H Q E, sp vs H Q E → vs.length = ps.length
  run : ∀ (A : Around) (outer : List Env) (s : Shared) (H : Hp) (args : Args) (us : List Value) (vs : List V) (Q : VK) (E : XK), Room k A → Env0 P w K mg base A outer s H → BindsTo s fd args (ps.zip us) → Vals vs us → sp vs H Q E →
    codeAny (model P w) A (.call (.ref f) args) (CR CX outer P w H s Q E) s
theorem Env0.make {P : Program} {w : World} {K : PySem.W.Frag} {mg : Str → Option Value} {base : Heap} {A : Around} {outer : List Env} {s : Shared} {H : Hp} (e : Env0 P w K mg base A outer s H) (C : Addr) (us : List Value) (kw : List (Str × Value)) :
    Env0 P w K mg base (A.under (.builtin "type.__call__" ⟨.ref C :: us, kw⟩)) outer s H := ⟨by first | exact e.frames | (simpa [Around.under, Code.envs, Code.isFrame, pushEnvs] using e.frames), e.mod, e.bs, e.bsz, e.funs, e.frf, e.hok, e.bare⟩
section
variable {X : Cx} {pins : List (Addr × Obj)} {σ : St} {H : Hp} {s s' : Shared}
theorem Inv.env0 (I : Inv X pins σ H s) : Env0 X.prog X.w X.K X.mg X.base X.A X.stack s H :=
  ⟨I.ok.frames, I.ok.mod, I.bs, Nat.le_trans I.ok.bsz I.sz, I.stack, I.stkFree, I.hok, I.bare⟩
theorem Inv.after {Q : VK} {u : Value} (I : Inv X pins σ H s) (h : CE X.stack X.prog X.w H s Q u s') : EP X pins σ Q u s' := by
  obtain ⟨v, H', os, bare, un, hok, r, q⟩ := h
  obtain ⟨hh, g, d, t, os'⟩ := s'
  obtain rfl : os' = s.os := os
  exact ⟨v, H', I.call (h' := hh) (g' := g) (d' := d) (t' := t) (ch := []) un hok bare (fun b z => absurd z (by simp)), r, q⟩
end
def tCall (sp : Sp) (dvs : List V) (E : XK) (t : TA) : TE := fun σ H Q => t σ H fun vs H1 => sp (vs ++ dvs) H1 Q E
def tMake (C : Addr) (sp : Sp) (dvs : List V) (E : XK) (t : TA) : TE := fun σ H Q => t σ H fun vs H1 => ∀ x dx, H1 x = none → H1 dx = none → dx ≠ x →
  sp (.ref x :: (vs ++ dvs)) (upd (upd H1 dx (.own x)) x (.ins C dx [])) (fun v H2 => v = .non ∧ Q (.ref x) H2) E
def Binds (K : PySem.W.Frag) (fd : FuncData) (ps : List Str) (ds : List Value) : Prop :=
  ∀ (s : Shared) (us : List Value), K.In s.heap → (us ++ ds).length = ps.length → BindsTo s fd ⟨us, []⟩ (ps.zip (us ++ ds))
theorem Binds.all {K : PySem.W.Frag} {fd : FuncData} {ps : List Str} (h : ∀ us : List Value, us.length = ps.length → bindArgs fd ⟨us, []⟩ = pure (ps.zip us)) : Binds K fd ps [] := fun s us _ hl => by
  rw [List.append_nil] at hl ⊢
  exact .of_eq (h us hl)
def Passes (CX : CXT) (X : Cx) (E : XK) : Prop := ∀ (pins : List (Addr × Obj)) (σ : St) (H : Hp) (s : Shared) (e : Value) (s' : Shared), Inv X pins σ H s → CX X.stack H s E e s' → X.xe e s'
section
variable {X : Cx} {CX : CXT} {k : Nat} {f C : Addr} {fd : FuncData} {ps : List Str} {sp : Sp} {dvs : List V} {ds : List Value} {E : XK} {x m : Str} {p pos apos : Pos} {e o : Expr} {es : List Expr} {ta : TE} {t : TA}
theorem run_fn {pins : List (Addr × Obj)} {σ : St} {H : Hp} {s : Shared} {Q : VK} {us : List Value} {vs : List V} (F : FnOk X.prog X.w X.K X.mg X.base CX k f fd ps sp) (hr : Room k X.A) (hb : Binds X.K fd ps ds) (hd : Vals dvs ds) (hx : Passes CX X E)
    (I : Inv X pins σ H s) (r : Vals vs us) (h : sp (vs ++ dvs) H Q E) : wpAny (model X.prog X.w) X.A (call (.ref f) us) (EP X pins σ Q) X.xe s := by
  have r2 : Vals (vs ++ dvs) (us ++ ds) := r.append hd
  have hl : (us ++ ds).length = ps.length := by rw [← r2.length]; exact F.len _ _ _ _ h
  refine wpAny_call (codeAny_mono (F.run X.A X.stack s H ⟨us, []⟩ (us ++ ds) (vs ++ dvs) Q E hr I.env0 (hb s us I.kIn hl) r2 h) fun r s' hq => ?_)
  cases r with
  | error e => exact hx pins σ H s e s' I hq
  | ok fl =>
    cases fl with
    | ret u => exact I.after hq
    | next => exact False.elim hq
    | brk => exact False.elim hq
    | cont => exact False.elim hq
structure Mk (K : PySem.W.Frag) (C f : Addr) : Prop where
  makes : PySem.W.makesIn K C = true
  init : PySem.W.findIn K (.ref C) "__init__" = some (some (.ref f))
  fn : PySem.W.isFn K (.ref f) = true
  kp : PySem.W.keepIn K (.ref C) = true
theorem run_make {pins : List (Addr × Obj)} {σ : St} {H : Hp} {s : Shared} {Q : VK} {us : List Value} {vs : List V} (M : Mk X.K C f) (F : FnOk X.prog X.w X.K X.mg X.base CX k f fd ps sp) (hr : Room (k + 1) X.A) (hb : Binds X.K fd ps ds) (hd : Vals dvs ds)
    (hx : Passes CX X E) (I : Inv X pins σ H s) (r : Vals vs us)
    (h : ∀ x dx, H x = none → H dx = none → dx ≠ x → sp (.ref x :: (vs ++ dvs)) (upd (upd H dx (.own x)) x (.ins C dx [])) (fun v H2 => v = .non ∧ Q (.ref x) H2) E) :
    wpAny (model X.prog X.w) X.A (call (.ref C) us) (EP X pins σ Q) X.xe s := by
  have hq := h (s.heap.objs.size + 1) s.heap.objs.size (I.hok.fresh (Nat.le_succ _)) (I.hok.fresh (Nat.le_refl _)) (Nat.ne_of_lt (Nat.lt_succ_self _))
  have I2 := Inv.made (C := C) I
  have r2 : Vals (V.ref (s.heap.objs.size + 1) :: (vs ++ dvs)) (Value.ref (s.heap.objs.size + 1) :: (us ++ ds)) := .cons rfl (r.append hd)
  have hl : (Value.ref (s.heap.objs.size + 1) :: us ++ ds).length = ps.length := by
    have e := r2.length
    rw [F.len _ _ _ _ hq] at e
    exact e.symm
  refine wpAny_call (make_map (f := f) I.kIn M.makes M.init (beq_iff_eq.mp M.fn) (codeAny_mono (F.run _ X.stack _ _ ⟨Value.ref (s.heap.objs.size + 1) :: us, []⟩ (Value.ref (s.heap.objs.size + 1) :: (us ++ ds)) _ _ E (hr.make C us [])
    (I2.env0.make C us []) (hb _ (Value.ref (s.heap.objs.size + 1) :: us) I2.kIn hl) r2 hq) fun r s' hq' => ?_))
  cases r with
  | error e => exact hx pins σ _ _ e s' I2 hq'
  | ok fl =>
    cases fl with
    | ret u =>
      obtain ⟨v, H', I3, rv, ev, q3⟩ := I2.after hq'
      subst ev
      exact ⟨rv, ⟨V.ref (s.heap.objs.size + 1), H', I3, rfl, q3⟩⟩
    | next => exact False.elim hq'
    | brk => exact False.elim hq'
    | cont => exact False.elim hq'
theorem pe_make (M : Mk X.K C f) (F : FnOk X.prog X.w X.K X.mg X.base CX k f fd ps sp) (hr : Room (k + 1) X.A) (hg : Gl X x) (hm : X.mg x = some (.ref C)) (hb : Binds X.K fd ps ds) (hd : Vals dvs ds) (hx : Passes CX X E)
    (ha : PA X (e :: es) t) (hdb : (x == ("__debug__" : Str)) = false := by decide) (he : starEach (e :: es) X.env = (false, eval e X.env) :: starEach es X.env := by rfl) (hpl : (backTo pos (starEach es X.env)).any (·.1) = false := by rfl) :
    PE X (.Call (.Name x p) (e :: es) [] pos) (tMake C sp dvs E t) := by
  intro pins s σ H Q I h
  refine wpAny_Call_Name_kw (ld_glob I hg hm ?_ hdb)
  refine PySem.W.callWith_K (h₀ := X.base) I.ok.mod.kin M.kp (thn (ha pos pins s σ H _ I h) fun us s1 ⟨vs, H1, I1, r, q⟩ => ⟨I1.kIn, ?_⟩) he hpl
  exact run_make M F hr hb hd hx I1 r q
end
structure FnScope (N P : List Str) (sc : Scope) : Prop where
  kind : sc.kind = .function
  co : sc.isCoroutine = false
  gen : sc.isGenerator = false
  nd : N.Nodup
  pre : N.take P.length = P
  par : ∀ x ∈ P, sc.names.lookup x = some .local ∨ sc.names.lookup x = some .cell
  nofree : ∀ y ∈ sc.names, y.2 ≠ .free
theorem bindL_out {kindOf : Str → Option NameKind} {x : Str} : ∀ {binds : List (Str × Value)} {m : Str → Option Value}, (∀ v, (x, v) ∉ binds) → bindL kindOf binds m x = m x
  | [], _, _ => rfl
  | (n, v) :: r, m, h => by
    unfold bindL
    rw [bindL_out fun w hw => h w (List.mem_cons_of_mem _ hw)]
    split
    · have : x ≠ n := by rintro rfl; exact h v List.mem_cons_self
      simp [this]
    · rfl
theorem bindC_out {kindOf : Str → Option NameKind} {x : Str} : ∀ {binds : List (Str × Value)} {m : Str → Option Value}, (∀ v, (x, v) ∉ binds) → bindC kindOf binds m x = m x
  | [], _, _ => rfl
  | (n, v) :: r, m, h => by
    unfold bindC
    rw [bindC_out fun w hw => h w (List.mem_cons_of_mem _ hw)]
    split
    · rfl
    · have : x ≠ n := by rintro rfl; exact h v List.mem_cons_self
      simp [this]
theorem bindL_get {kindOf : Str → Option NameKind} {x : Str} {v : Value} : ∀ {P : List Str} {vs : List Value} {i : Nat} {m : Str → Option Value}, P.Nodup → P[i]? = some x → vs[i]? = some v → kindOf x = some .local →
    bindL kindOf (P.zip vs) m x = some v
  | [], _, _, _, _, h, _, _ => by simp at h
  | _ :: _, [], _, _, _, _, h, _ => by simp at h
  | p :: P, w :: vs, 0, m, nd, h1, h2, hk => by
    simp at h1 h2; subst h1; subst h2
    show bindL kindOf ((p, w) :: P.zip vs) m p = _
    unfold bindL
    rw [bindL_out fun v hv => (List.nodup_cons.mp nd).1 (List.of_mem_zip hv).1, if_pos hk]
    simp
  | p :: P, w :: vs, i + 1, m, nd, h1, h2, hk => by
    show bindL kindOf ((p, w) :: P.zip vs) m x = _
    unfold bindL
    exact bindL_get (i := i) (List.nodup_cons.mp nd).2 (by simpa using h1) (by simpa using h2) hk
theorem bindC_get {kindOf : Str → Option NameKind} {x : Str} {v : Value} : ∀ {P : List Str} {vs : List Value} {i : Nat} {m : Str → Option Value}, P.Nodup → P[i]? = some x → vs[i]? = some v → kindOf x ≠ some .local →
    bindC kindOf (P.zip vs) m x = some v
  | [], _, _, _, _, h, _, _ => by simp at h
  | _ :: _, [], _, _, _, _, h, _ => by simp at h
  | p :: P, w :: vs, 0, m, nd, h1, h2, hk => by
    simp at h1 h2; subst h1; subst h2
    show bindC kindOf ((p, w) :: P.zip vs) m p = _
    unfold bindC
    rw [bindC_out fun v hv => (List.nodup_cons.mp nd).1 (List.of_mem_zip hv).1, if_neg hk]
    simp
  | p :: P, w :: vs, i + 1, m, nd, h1, h2, hk => by
    show bindC kindOf ((p, w) :: P.zip vs) m x = _
    unfold bindC
    exact bindC_get (i := i) (List.nodup_cons.mp nd).2 (by simpa using h1) (by simpa using h2) hk
def start (N : List Str) (vs : List V) : St := vs.map some ++ List.replicate (N.length - vs.length) none
def cxOf (CX : CXT) (P : Program) (w : World) (K : PySem.W.Frag) (mg : Str → Option Value) (base : Heap) (N : List Str) (qual : Str) (scope : Scope) (f : Addr) (cd : Value) (A : Around) (outer : List Env) (s : Shared) (H : Hp) (E : XK) : Cx where
  prog := P
  w := w
  K := K
  mg := mg
  base := base
  A := A.deeper (envOfC qual scope s.heap.objs.size f cd)
  N := N
  s₀ := s
  H₀ := H
  env := envOfC qual scope s.heap.objs.size f cd
  outer := outer
  stack := envOfC qual scope s.heap.objs.size f cd :: outer
  ex := []
  calm := true
  fn := fun _ => true
  pn := []
  xe := fun e s' => wpAny (model P w) (A.deeper (envOfC qual scope s.heap.objs.size f cd)) (leaving (envOfC qual scope s.heap.objs.size f cd) e) (fun _ s'' => CX outer H s E e s'') (fun e' s'' => CX outer H s E e' s'') s'
theorem cell_has {sc : Scope} {n : Nat} {x : Str} (h : sc.names.lookup x = some .cell) : ∃ c, (cellsFrom n sc.names []).lookup x = some c := by
  have q := PySem.W.cellsFrom_some sc.names n [] (.inl h)
  exact Option.isSome_iff_exists.mp q
end L2
namespace L2
open PySem PySem.Spec PyProof.Rows
section
variable {X : Cx} {x : Str} {p pos : Pos} {e : Expr} {es : List Expr} {t : TA} {id T : String} {r : List V → Hp → VK → Prop}
def tCB (r : List V → Hp → VK → Prop) (t : TA) : TE := fun σ H Q => t σ H fun vs H1 => r vs H1 Q
theorem pe_callB (hc : CallR X (.builtin id) r) (hg : Gl X x) (hm : X.mg x = none) (hv : bootBuiltins x = some (.builtin id)) (ha : PA X (e :: es) t) (hn : x ≠ "__name__" := by decide) (hdb : (x == ("__debug__" : Str)) = false := by decide)
    (he : starEach (e :: es) X.env = (false, eval e X.env) :: starEach es X.env := by rfl) (hpl : (backTo pos (starEach es X.env)).any (·.1) = false := by rfl) : PE X (.Call (.Name x p) (e :: es) [] pos) (tCB r t) := by
  intro pins s σ H Q I h
  refine wpAny_Call_Name_kw (ld_blt I hg hm hv ?_ hn hdb)
  exact PyProof.Rows.callWith_builtin1 (thn (ha pos pins s σ H _ I h) fun us s1 ⟨vs, H1, I1, r1, q1⟩ => hc pins s1 σ H1 vs us Q I1 r1 q1) he hpl
theorem pe_callTy (hc : CallR X (.type T) r) (hg : Gl X x) (hm : X.mg x = none) (hv : bootBuiltins x = some (.type T)) (ha : PA X (e :: es) t) (hn : x ≠ "__name__" := by decide) (hdb : (x == ("__debug__" : Str)) = false := by decide)
    (he : starEach (e :: es) X.env = (false, eval e X.env) :: starEach es X.env := by rfl) (hpl : (backTo pos (starEach es X.env)).any (·.1) = false := by rfl) : PE X (.Call (.Name x p) (e :: es) [] pos) (tCB r t) := by
  intro pins s σ H Q I h
  refine wpAny_Call_Name_kw (ld_blt I hg hm hv ?_ hn hdb)
  exact PyProof.Rows.callWith_type1 (thn (ha pos pins s σ H _ I h) fun us s1 ⟨vs, H1, I1, r1, q1⟩ => hc pins s1 σ H1 vs us Q I1 r1 q1) he hpl
end
end L2
namespace HT
open PySem PyProof.Rows
section
variable {prog : Program} {w : World} {A : Around} {E : Value → Shared → Prop} {s : Shared}
theorem cat_tup {t b : Addr} {vs ws : List Value} {Q : Value → Shared → Prop} (ht : IsTup s.heap t vs.toArray) (hb : IsTup s.heap b ws.toArray) (hv : vs ≠ [])
    (h1 : ws = [] → Q (.ref t) s) (h2 : ws ≠ [] → Q (.ref s.heap.objs.size) { s with heap := s.heap.push { cls := .type "tuple", data := .seq (vs ++ ws).toArray } })
    (hsz : vs.length + ws.length ≤ sizeLine) : wpAny (model prog w) A (binaryOp .Add (.ref t) (.ref b)) Q E s := by
  obtain ⟨⟨cls, dd, data, sl⟩, ho, hc, n, hd⟩ := id ht
  obtain ⟨⟨cls2, dd2, data2, sl2⟩, ho2, hc2, n2, hd2⟩ := id hb
  simp only at hc hd hc2 hd2
  subst hc hd hc2 hd2
  have e : vs.toArray ++ ws.toArray = (vs ++ ws).toArray := by simp
  by_cases hw : ws = []
  · exact concat_meets ⟨_, ho, rfl⟩ ⟨_, ho2, rfl⟩ noFill_tuple_add seq_tuple_add PySem.F.slot_tuple_add PySem.F.entry_tuple_add (PySem.F.args_tuple_add_2 _ _)
      (tuple_addW1 t b vs.toArray ws.toArray n n2 dd dd2 sl sl2 (by simpa using hv) (by simp [hw])) ⟨ho, ho2, h1 hw⟩
  · refine concat_meets ⟨_, ho, rfl⟩ ⟨_, ho2, rfl⟩ noFill_tuple_add seq_tuple_add PySem.F.slot_tuple_add PySem.F.entry_tuple_add (PySem.F.args_tuple_add_2 _ _)
      (tuple_addW2 t b vs.toArray ws.toArray n n2 dd dd2 sl sl2 (by simpa using hv) (by simpa using hw) (by rw [List.size_toArray, List.size_toArray]; exact hsz)) ⟨ho, ho2, ?_⟩
    rw [e]
    exact h2 hw
def sIx (n d : Nat) : Option Int → Nat
  | none => d
  | some v => if v < 0 then (v + (n : Int)).toNat else min v.toNat n
theorem sIx_none (n d : Nat) : sIx n d none = d := rfl
theorem sIx_nat (n d k : Nat) : sIx n d (some (k : Int)) = min k n := by
  show (if (k : Int) < 0 then ((k : Int) + (n : Int)).toNat else min (k : Int).toNat n) = min k n
  rw [if_neg (by omega), Int.toNat_natCast]
theorem sIx_le (n d : Nat) (hd : d ≤ n) (o : Option Int) : sIx n d o ≤ n := by
  cases o with
  | none => exact hd
  | some v =>
    show (if v < 0 then (v + (n : Int)).toNat else min v.toNat n) ≤ n
    by_cases hv : v < 0
    · rw [if_pos hv]; omega
    · rw [if_neg hv]; exact Nat.min_le_right _ _
theorem clip_eq (v : Int) (n d : Nat) : (if v < 0 then max (v + (n : Int)) 0 else min v (n : Int)) = ((sIx n d (some v) : Nat) : Int) := by
  show (if v < 0 then max (v + (n : Int)) 0 else min v (n : Int)) = (((if v < 0 then (v + (n : Int)).toNat else min v.toNat n) : Nat) : Int)
  by_cases hv : v < 0
  · simp only [if_pos hv]; omega
  · simp only [if_neg hv]; omega
theorem adjust_gen (lo hi : Option Int) (n : Nat) : Builtin.Slice.sliceAdjust lo hi 1 (n : Int) = (((sIx n 0 lo : Nat) : Int), ((sIx n n hi : Nat) : Int)) := by
  have h1 : ¬ ((1 : Int) < 0) := by omega
  unfold Builtin.Slice.sliceAdjust
  simp only [h1, if_false]
  refine Prod.ext ?_ ?_
  · cases lo with
    | none => rfl
    | some v => exact clip_eq v n 0
  · cases hi with
    | none => rfl
    | some v => exact clip_eq v n n
theorem places_gen (i j : Nat) : Builtin.Slice.slicePlaces (i : Int) (j : Int) 1 = j - i := by
  unfold Builtin.Slice.slicePlaces
  have h1 : (1 : Int) > 0 := by omega
  simp only [h1, if_true, Int.ediv_one]
  split <;> omega
theorem slicePart_ {v : Value} {o : Option Int} {Q : Option Int → Shared → Prop} (p : IsPart v o) (h : Q o s) : wpAny (model prog w) A (Builtin.Slice.slicePartIndex v) Q E s := by
  cases p with
  | none => exact slicePart_none h
  | int i t => exact slicePart_int h
theorem sliceApplied_gen {sl : Addr} {vl vu : Value} {lo hi : Option Int} {n : Nat} {Q : Int × Int × Nat → Shared → Prop} (hs : s.heap.IsSliceOf sl vl vu .none) (pl : IsPart vl lo) (pu : IsPart vu hi)
    (h : Q (((sIx n 0 lo : Nat) : Int), 1, sIx n n hi - sIx n 0 lo) s) : wpAny (model prog w) A (Builtin.Slice.sliceApplied (.ref sl) (pure (n : Int))) Q E s := by
  obtain ⟨os, hos, hcs, hds⟩ := id hs
  unfold Builtin.Slice.sliceApplied Builtin.Slice.sliceFields
  refine wpAny_bind (wpAny_bind (wpAny_field hos hds (x := vl) rfl (wpAny_bind (wpAny_field hos hds (x := vu) rfl (wpAny_bind (wpAny_field hos hds (x := .none) rfl (wpAny_pure ?_)))))))
  refine wpAny_bind (slicePart_none ?_)
  show wpAny _ _ (if ((1 : Int) == 0) = true then _ else _) _ _ s
  rw [if_neg (by decide)]
  refine wpAny_bind (slicePart_ pl (wpAny_bind (slicePart_ pu (wpAny_bind (wpAny_pure ?_)))))
  show wpAny _ _ (match Builtin.Slice.sliceAdjust lo hi 1 (n : Int) with | (lo, hi) => pure (lo, (1 : Int), Builtin.Slice.slicePlaces lo hi 1)) _ _ s
  rw [adjust_gen lo hi n]
  show wpAny _ _ (pure (((sIx n 0 lo : Nat) : Int), (1 : Int), Builtin.Slice.slicePlaces ((sIx n 0 lo : Nat) : Int) ((sIx n n hi : Nat) : Int) 1)) _ _ s
  rw [places_gen]
  exact wpAny_pure h
theorem pick_gen (xs : Array Value) (i k : Nat) : ((List.range k).filterMap fun (m : Nat) => xs[((i : Int) + (m : Int) * 1).toNat]?).toArray = ((xs.toList.drop i).take k).toArray := by
  have e : (fun (m : Nat) => xs[((i : Int) + (m : Int) * 1).toNat]?) = fun m => xs[i + m]? := by
    funext m
    have : ((i : Int) + (m : Int) * 1).toNat = i + m := by omega
    rw [this]
  rw [e]
  have := pick_run xs i k
  rw [List.filterMap_map] at this
  have e2 : ((fun x => xs[x]?) ∘ fun x => i + x) = fun m => xs[i + m]? := rfl
  rw [e2] at this
  rw [this]
theorem getItem_tuple_cut {t sl : Addr} {items : Array Value} {vl vu : Value} {lo hi : Option Int} {Q : Value → Shared → Prop} (ht : IsTup s.heap t items) (hs : s.heap.IsSliceOf sl vl vu .none) (pl : IsPart vl lo) (pu : IsPart vu hi)
    (hw : ¬ (sIx items.size 0 lo = 0 ∧ sIx items.size items.size hi = items.size))
    (h : Q (.ref s.heap.objs.size) { s with heap := s.heap.push { cls := .type "tuple", data := .seq ((items.toList.drop (sIx items.size 0 lo)).take (sIx items.size items.size hi - sIx items.size 0 lo)).toArray } })
    (hsz : items.size ≤ sizeLine) : wpAny (model prog w) A (getItem (.ref t) (.ref sl)) Q E s := by
  have htake : sizeOk (.seq ((items.toList.drop (sIx items.size 0 lo)).take (sIx items.size items.size hi - sIx items.size 0 lo)).toArray) := by
    show ((items.toList.drop (sIx items.size 0 lo)).take (sIx items.size items.size hi - sIx items.size 0 lo)).toArray.size ≤ sizeLine
    rw [List.size_toArray, List.length_take, List.length_drop, Array.length_toList]
    omega
  have hj : sIx items.size items.size hi ≤ items.size := sIx_le _ _ (Nat.le_refl _) hi
  obtain ⟨os, hos, hcs, hds⟩ := id hs
  have hTs : s.TypeIs (.ref sl) "slice" := ⟨os, hos, hcs⟩
  unfold getItem
  try with_reducible refine wpAny_holding ?_
  first | refine wpAny_bind (wpAny_pure ?_) | skip
  refine wpAny_bind (wpAny_sequenceKey ht.typeIs (by decide) ?_)
  refine wpAny_bind (wpAny_callSpecial?_slot (name := Str.ofString "__getitem__") ht.typeIs PyProof.Rows.slot_tuple_getitem
    (wpAny_call_entry PyProof.Rows.slot_tuple_getitem ht.typeIs entry_tuple_getitem ?_ (args_tuple_getitem _ _)))
  show wpAny _ _ (Builtin.Tuple.tupleItemsOf (.ref t) >>= _) _ _ s
  refine wpAny_bind (tupleItemsOf_ ht ?_)
  refine wpAny_bind (wpAny_typeOf hTs ?_)
  rw [if_pos (by decide)]
  refine wpAny_bind (sliceApplied_gen hs pl pu ?_)
  have hno : ¬ ((((sIx items.size 0 lo : Nat) : Int) == 0 && (1 : Int) == 1 && (sIx items.size items.size hi - sIx items.size 0 lo) == items.size) = true) := by
    intro q
    rw [Bool.and_eq_true, Bool.and_eq_true] at q
    have q1 : ((sIx items.size 0 lo : Nat) : Int) = 0 := eq_of_beq q.1.1
    have q2 : sIx items.size items.size hi - sIx items.size 0 lo = items.size := eq_of_beq q.2
    exact hw ⟨by omega, by omega⟩
  show wpAny _ _ (if (((sIx items.size 0 lo : Nat) : Int) == 0 && (1 : Int) == 1 && (sIx items.size items.size hi - sIx items.size 0 lo) == items.size) = true then _ else _) _ _ s
  rw [if_neg hno, pick_gen]
  first
    | exact wpAny_bind (m := Builtin.Tuple.tupleExact _) (wpAny_newObj_type (wpAny_pure ⟨_, rfl, wpAny_pure h⟩) htake)
    | exact wpAny_bind (m := Builtin.Tuple.tupleExact _) (wpAny_newObj_type (wpAny_bind (wpAny_pure (wpAny_pure ⟨_, rfl, wpAny_pure h⟩))) htake)
    | exact wpAny_bind (wpAny_bind (m := Builtin.Tuple.tupleExact _) (wpAny_newObj_type (wpAny_pure (wpAny_pure ⟨_, rfl, wpAny_pure h⟩)) htake))
    | exact wpAny_bind (wpAny_bind (m := Builtin.Tuple.tupleExact _) (wpAny_newObj_type (wpAny_pure ⟨_, rfl, wpAny_pure h⟩) htake))
end
end HT
namespace L2
open PySem PySem.Spec PyProof.Rows
abbrev TO := St → Hp → (Option Int → Hp → Prop) → Prop
def PO (X : Cx) (e : Option Expr) (t : TO) : Prop :=
  ∀ (pins : List (Addr × Obj)) (s : Shared) (σ : St) (H : Hp) (Q : Option Int → Hp → Prop), Inv X pins σ H s → t σ H Q →
    wpAny (model X.prog X.w) X.A (evalPart e X.env) (fun u s' => ∃ o H', Inv X pins σ H' s' ∧ IsPart u o ∧ Q o H') X.xe s
def tNoPart : TO := fun _ H Q => Q none H
def tPart (t : TE) : TO := fun σ H Q => t σ H fun x H1 => ∃ i, x = .int i ∧ Q (some i) H1
section
variable {X : Cx} {e : Expr} {te : TE} {lo hi : Option Expr} {tl th : TO} {pos p2 : Pos}
theorem po_none : PO X none tNoPart := by
  intro pins s σ H Q I h
  rw [evalPart_none]
  exact wpAny_pure ⟨none, H, I, .none, h⟩
theorem po_some (h : PE X e te) : PO X (some e) (tPart te) := by
  intro pins s σ H Q I hw
  rw [evalPart_some]
  refine thn (h pins s σ H _ I hw) fun u s1 ⟨x, H1, I1, r1, q1⟩ => ?_
  obtain ⟨i, rfl, q⟩ := q1
  obtain ⟨t, rfl⟩ := r1
  exact ⟨some i, H1, I1, .int i t, q⟩
def SlR (X : Cx) (r : V → Option Int → Option Int → Hp → VK → Prop) : Prop :=
  ∀ (pins : List (Addr × Obj)) (s : Shared) (σ : St) (H : Hp) (x : V) (v vl vu : Value) (lo hi : Option Int) (sl : Addr) (Q : VK), Inv X pins σ H s → RelV x v → s.heap.IsSliceOf sl vl vu .none → IsPart vl lo → IsPart vu hi → r x lo hi H Q →
    ∃ T id, typeLookup (.type T) "__getitem__" = pure (some (.builtin id)) ∧ s.TypeIs v T ∧ wpAny (model X.prog X.w) X.A (getItem v (.ref sl)) (EP X pins σ Q) X.xe s
def tSl (r : V → Option Int → Option Int → Hp → VK → Prop) (te : TE) (tl th : TO) : TE := fun σ H Q => te σ H fun x H1 => tl σ H1 fun l H2 => th σ H2 fun u H3 => r x l u H3 Q
theorem pe_slice {r : V → Option Int → Option Int → Hp → VK → Prop} (hr : SlR X r) (he : PE X e te) (hl : PO X lo tl) (hu : PO X hi th) : PE X (.Subscript e (.Slice lo hi none p2) pos) (tSl r te tl th) := by
  intro pins s σ H Q I h
  refine Subscript_ (thn (he pins s σ H _ I h) fun v s1 ⟨x, H1, I1, r1, q1⟩ => ?_)
  refine wpAny_Slice (thn (hl pins s1 σ H1 _ I1 q1) fun vl s2 ⟨l, H2, I2, pl, q2⟩ => thn (hu pins s2 σ H2 _ I2 q2) fun vu s3 ⟨u, H3, I3, pu, q3⟩ => ?_)
  rw [evalPart_none]
  refine wpAny_pure ?_
  have I4 : Inv X pins σ H3 { s3 with heap := s3.heap.push { cls := .type "slice", data := .fields #[vl, vu, .none] } } := I3.kept (t' := s3.toks) fun b ob q => Heap.get?_push_of_some _ q
  obtain ⟨T, id, hT, ht, hg⟩ := hr pins { s3 with heap := s3.heap.push { cls := .type "slice", data := .fields #[vl, vu, .none] } } σ H3 x v vl vu l u s3.heap.objs.size Q I4 r1 (Heap.IsSliceOf.new ..) pl pu q3
  show wpAny (model X.prog X.w) X.A (subscriptTail e (.Slice lo hi none p2) v (.ref s3.heap.objs.size)) (EP X pins σ Q) X.xe { s3 with heap := s3.heap.push { cls := .type "slice", data := .fields #[vl, vu, .none] } }
  exact tail_any (ops := [.ref s3.heap.objs.size, v]) ht hT hg (by with_unfolding_all rfl)
def cutV (xs : List V) (lo hi : Option Int) : List V := (xs.drop (HT.sIx xs.length 0 lo)).take (HT.sIx xs.length xs.length hi - HT.sIx xs.length 0 lo)
theorem cutV_length (xs : List V) (lo hi : Option Int) : (cutV xs lo hi).length ≤ xs.length := by
  unfold cutV
  rw [List.length_take, List.length_drop]
  omega
def rSlT (K : PySem.W.Frag) : V → Option Int → Option Int → Hp → VK → Prop := fun x lo hi H Q => ∃ a xs, x = .ref a ∧ SqT K H a xs ∧
  ¬ (HT.sIx xs.length 0 lo = 0 ∧ HT.sIx xs.length xs.length hi = xs.length) ∧ ∀ p, H p = none → Q (.ref p) (upd H p (.tup (cutV xs lo hi)))
theorem sl_tup : SlR X (rSlT X.K) := by
  intro pins s σ H x v vl vu lo hi sl Q I rx hs pl pu h
  obtain ⟨a, xs, rfl, hx, hw, q⟩ := h
  cases rx
  obtain ⟨its, r, ht, hz⟩ := I.tuple hx
  have hlen : its.toArray.size = xs.length := by rw [List.size_toArray]; exact r.length.symm
  refine ⟨"tuple", _, PyProof.Rows.slot_tuple_getitem.lookup, ht.typeIs, ?_⟩
  refine HT.getItem_tuple_cut ht hs pl pu (by rw [hlen]; exact hw) ?_ (by rw [hlen]; exact hz)
  rw [hlen]
  refine ⟨.ref s.heap.objs.size, _, I.laid (t' := s.toks) (o := .tup (cutV xs lo hi)) (fun b ob q => Heap.get?_push_of_some _ q) (Nat.le_refl _) ?_, rfl, q _ (I.hok.fresh (Nat.le_refl _))⟩
  exact ⟨Nat.le_trans (cutV_length xs lo hi) hz, _, (r.drop (HT.sIx xs.length 0 lo)).take (HT.sIx xs.length xs.length hi - HT.sIx xs.length 0 lo), IsTup.new _ _⟩
def rCatT (K : PySem.W.Frag) : R2 := fun x y H Q => ∃ a b xs ys, x = .ref a ∧ y = .ref b ∧ SqT K H a xs ∧ SqT K H b ys ∧ xs ≠ [] ∧ xs.length + ys.length ≤ sizeLine ∧
  (ys = [] → Q (.ref a) H) ∧ (ys ≠ [] → ∀ p, H p = none → Q (.ref p) (upd H p (.tup (xs ++ ys))))
theorem Vals.nil_iff {xs : List V} {us : List Value} (r : Vals xs us) : us = [] ↔ xs = [] := by
  cases r with
  | nil => simp
  | cons _ _ => simp
theorem op_catT : OpR X (binaryOp .Add) (rCatT X.K) := by
  intro pins s σ H x y v u Q I rx ry h
  obtain ⟨a, b, xs, ys, rfl, rfl, ha, hb, hx, hz, q1, q2⟩ := h
  cases rx
  cases ry
  obtain ⟨its, r1, p1, _⟩ := I.tuple ha
  obtain ⟨its2, r2, p2, _⟩ := I.tuple hb
  refine HT.cat_tup p1 p2 (fun z => hx (r1.nil_iff.mp z)) (fun z => ⟨.ref a, H, I, rfl, q1 (r2.nil_iff.mp z)⟩) (fun z => ?_) (by rw [← r1.length, ← r2.length]; exact hz)
  refine ⟨.ref s.heap.objs.size, _, I.laid (t' := s.toks) (o := .tup (xs ++ ys)) (fun b ob q => Heap.get?_push_of_some _ q) (Nat.le_refl _) ?_, rfl, q2 (fun w => z (r2.nil_iff.mpr w)) _ (I.hok.fresh (Nat.le_refl _))⟩
  exact ⟨by rw [List.length_append]; exact hz, _, r1.append r2, IsTup.new _ _⟩
end
end L2
namespace L2
open PySem PySem.Spec PyProof.Rows
def ixN (n : Nat) (i : Int) : Option Nat := if 0 ≤ i then (if i < n then some i.toNat else none) else if -(n : Int) ≤ i then some (i + n).toNat else none
def atI {α : Type} (xs : List α) (i : Int) : Option α := (ixN xs.length i).bind fun j => xs[j]?
theorem ixN_seq {n : Nat} {i : Int} {j : Nat} (h : ixN n i = some j) : seqIndex? i n = some j ∧ j < n ∧ -(n : Int) ≤ i ∧ i < n := by
  unfold ixN at h
  by_cases h0 : 0 ≤ i
  · rw [if_pos h0] at h
    by_cases h1 : i < n
    · rw [if_pos h1] at h
      have e : i.toNat = j := Option.some.inj h
      exact ⟨by rw [seqIndex_of h0 h1, e], by omega, by omega, h1⟩
    · rw [if_neg h1] at h; cases h
  · rw [if_neg h0] at h
    by_cases h1 : -(n : Int) ≤ i
    · rw [if_pos h1] at h
      have e : (i + n).toNat = j := Option.some.inj h
      exact ⟨by rw [seqIndex_neg (by omega) h1, e], by omega, h1, by omega⟩
    · rw [if_neg h1] at h; cases h
theorem atI_get {α : Type} {xs : List α} {i : Int} {v : α} (h : atI xs i = some v) : ∃ j, seqIndex? i xs.length = some j ∧ xs[j]? = some v ∧ j < xs.length ∧ -(xs.length : Int) ≤ i ∧ i < xs.length := by
  unfold atI at h
  cases e : ixN xs.length i with
  | none => rw [e] at h; cases h
  | some j =>
    rw [e] at h
    obtain ⟨h1, h2, h3, h4⟩ := ixN_seq e
    exact ⟨j, h1, h, h2, h3, h4⟩
theorem atI_nat {α : Type} {xs : List α} {j : Nat} {v : α} (h : xs[j]? = some v) : atI xs (j : Int) = some v := by
  have hj : j < xs.length := (List.getElem?_eq_some_iff.mp h).1
  have e : ixN xs.length (j : Int) = some j := by
    unfold ixN
    rw [if_pos (by omega), if_pos (by omega)]; simp
  unfold atI; rw [e]; exact h
def PlainIx (b : Expr) : Prop := ∀ o i, subscripted b false o i = operate [o, i] (getItem o i)
def IxR (X : Cx) (r : R2) : Prop :=
  ∀ (value slice : Expr) (pins : List (Addr × Obj)) (s : Shared) (σ : St) (H : Hp) (x y : V) (v u : Value) (Q : VK), Inv X pins σ H s → RelV x v → RelV y u → r x y H Q →
    subscripted slice false v u = operate [v, u] (getItem v u) → wpAny (model X.prog X.w) X.A (subscriptTail value slice v u) (EP X pins σ Q) X.xe s
def MtR (X : Cx) (id : String) (r : V → List V → Hp → VK → Prop) : Prop :=
  ∀ (pins : List (Addr × Obj)) (s : Shared) (σ : St) (H : Hp) (x : V) (xs : List V) (v : Value) (us : List Value) (Q : VK), Inv X pins σ H s → RelV x v → Vals xs us → r x xs H Q →
    wpAny (model X.prog X.w) X.A (call (.builtin id) (v :: us)) (EP X pins σ Q) X.xe s
section
variable {X : Cx} {a b : Expr} {ta tb : TE} {pos : Pos}
theorem pe_ix {r : R2} (hr : IxR X r) (ha : PE X a ta) (hb : PE X b tb) (hs : PlainIx b) : PE X (.Subscript a b pos) (tOp r ta tb) := by
  intro pins s σ H Q I h
  exact Subscript_ (binT ha hb I h fun v u s2 x y H2 I2 rx ry q => hr a b pins s2 σ H2 x y v u Q I2 rx ry q (hs _ _))
def rIxL (K : PySem.W.Frag) : R2 := fun x y H Q => ∃ p xs i v, x = .ref p ∧ y = .int i ∧ SqL K H p xs ∧ atI xs i = some v ∧ Q v H
def rIxT (K : PySem.W.Frag) : R2 := fun x y H Q => ∃ p xs i v, x = .ref p ∧ y = .int i ∧ SqT K H p xs ∧ atI xs i = some v ∧ Q v H
theorem ix_list : IxR X (rIxL X.K) := by
  intro value slice pins s σ H x y v u Q I rx ry h hs
  obtain ⟨p, xs, i, z, rfl, rfl, hq, he, q⟩ := h
  cases rx
  obtain ⟨t, rfl⟩ := ry
  obtain ⟨its, r, pl, hz⟩ := I.list hq
  obtain ⟨j, h1, h2, h3, h4, h5⟩ := atI_get he
  obtain ⟨w, ew, rw'⟩ := r.get h2
  have hl := r.length
  have hn := line63
  have fin : EP X pins σ Q w s := ⟨z, H, I, rw', q⟩
  by_cases h0 : 0 ≤ i
  · have hj : i.toNat = j := by
      rw [seqIndex_of h0 h5] at h1
      exact Option.some.inj h1
    exact item_listR pl.isList h0 (by omega) (by rw [hj]; simpa using ew) fin hs
  · have hj : (i + (its.toArray.size : Int)).toNat = j := by
      rw [seqIndex_neg (by omega) h4] at h1
      rw [List.size_toArray, ← hl]
      exact Option.some.inj h1
    exact subscriptTail_builtinR (x := w) pl.isList.typeIs slot_list_getitem.lookup
      (wpAny_getItem_list_neg (Q := fun r s' => r = w ∧ EP X pins σ Q r s') pl.isList (by omega) (by rw [List.size_toArray] <;> omega) (by omega) (by rw [hj]; simpa using ew) ⟨rfl, fin⟩) hs
theorem ix_tup : IxR X (rIxT X.K) := by
  intro value slice pins s σ H x y v u Q I rx ry h hs
  obtain ⟨p, xs, i, z, rfl, rfl, hq, he, q⟩ := h
  cases rx
  obtain ⟨t, rfl⟩ := ry
  obtain ⟨its, r, pl, hz⟩ := I.tuple hq
  obtain ⟨j, h1, h2, h3, h4, h5⟩ := atI_get he
  obtain ⟨w, ew, rw'⟩ := r.get h2
  have hl := r.length
  have hn := line63
  have fin : EP X pins σ Q w s := ⟨z, H, I, rw', q⟩
  exact subscriptTail_builtinR (x := w) pl.typeIs slot_tuple_getitem.lookup
    (getItem_tuple (j := j) (Q := fun r s' => r = w ∧ EP X pins σ Q r s') pl (by omega) (by omega) (by rw [List.size_toArray, ← hl]; exact h1) (by simpa using ew) ⟨rfl, fin⟩) hs
theorem mapSeq_set (its : List Value) (n j : Nat) (u : Value) : Obj.mapSeq (·.setIfInBounds j u) { cls := .type "list", data := .seq its.toArray n } = { cls := .type "list", data := .seq (its.set j u).toArray n } := by
  simp [Obj.mapSeq]
theorem Inv.lst {pins : List (Addr × Obj)} {σ : St} {H : Hp} {s : Shared} {p : Addr} {xs : List V} (I : Inv X pins σ H s) (h : H p = some (.lst xs)) :
    ∃ (its : List Value) (n : Nat), Vals xs its ∧ s.heap.get? p = some { cls := .type "list", data := .seq its.toArray n } ∧ xs.length ≤ sizeLine := by
  obtain ⟨z, its, n, r, e⟩ := I.hok p _ h
  exact ⟨its, n, r, e, z⟩
theorem Inv.lstUpd {pins : List (Addr × Obj)} {σ : St} {H : Hp} {s : Shared} {p : Addr} {xs ys : List V} {its its' : List Value} {n n' : Nat} {f : Obj → Obj} (I : Inv X pins σ H s) (h : H p = some (.lst xs))
    (ho : s.heap.get? p = some { cls := .type "list", data := .seq its.toArray n }) (hf : f { cls := .type "list", data := .seq its.toArray n } = { cls := .type "list", data := .seq its'.toArray n' }) (r : Vals ys its') (hz : ys.length ≤ sizeLine) (t : Nat) :
    Inv X pins σ (upd H p (.lst ys)) { s with heap := s.heap.update p f, toks := t } := by
  have e : (s.heap.update p f).get? p = some { cls := .type "list", data := .seq its'.toArray n' } := by
    rw [Heap.get?_update_self f ho (by rw [hf] <;> rfl), hf]
  refine I.write (x := p) (e := p) (by rw [h]; trivial) (.inl rfl) (fun b u hb q => (Heap.get?_update_other _ _ (Ne.symm hb)).trans q) ⟨_, e⟩ ?_
  exact ⟨hz, its', n', r, e⟩
def rSetL : V → V → V → Hp → (Hp → Prop) → Prop := fun o i v H Q => ∃ p xs k j, o = .ref p ∧ i = .int k ∧ H p = some (.lst xs) ∧ ixN xs.length k = some j ∧ Q (upd H p (.lst (xs.set j v)))
theorem set_list : PSet X rSetL := by
  intro pins s σ H o i v ov iv u Q I ro ri rv h
  obtain ⟨p, xs, k, j, rfl, rfl, hp, hj, q⟩ := h
  cases ro
  obtain ⟨t, rfl⟩ := ri
  obtain ⟨its, n, r, ho, hz⟩ := I.lst hp
  obtain ⟨h1, h2, h3, h4⟩ := ixN_seq hj
  have hl := r.length
  have hn := line63
  have I' : Inv X pins σ (upd H p (.lst (xs.set j v))) { s with heap := s.heap.update p (Obj.mapSeq (·.setIfInBounds j u)) } :=
    I.lstUpd hp ho (mapSeq_set its n j u) (r.set rv j) (by rw [List.length_set]; exact hz) s.toks
  by_cases h0 : 0 ≤ k
  · have hk : k.toNat = j := by
      rw [seqIndex_of h0 h4] at h1
      exact Option.some.inj h1
    exact PySem.W.ki_setAt ho h0 (by omega) (by rw [List.size_toArray, ← hl]; exact h4) (by rw [hk]; exact ⟨_, I', q⟩)
  · have hk : (k + (its.toArray.size : Int)).toNat = j := by
      rw [seqIndex_neg (by omega) h3] at h1
      rw [List.size_toArray, ← hl]
      exact Option.some.inj h1
    exact PySem.W.ki_setBack ho (by omega) (by rw [List.size_toArray, ← hl]; exact h3) (by omega) (by rw [hk]; exact ⟨_, I', q⟩)
theorem slice_bounds (lo hi : Option Int) (n : Nat) : (sliceBounds lo hi none n).1 = ((HT.sIx n 0 lo : Nat) : Int) ∧ (sliceBounds lo hi none n).2.1 = ((HT.sIx n n hi : Nat) : Int) ∧ (sliceBounds lo hi none n).2.2 = 1 := by
  refine ⟨?_, ?_, rfl⟩
  · cases lo with
    | none => simp [sliceBounds, HT.sIx]
    | some i =>
      simp only [sliceBounds, HT.sIx, Option.getD_none, show (1 : Int) > 0 by decide, if_true]
      by_cases h : i < 0
      · simp only [h, if_true] <;> omega
      · simp only [h, if_false] <;> omega
  · cases hi with
    | none => simp [sliceBounds, HT.sIx]
    | some i =>
      simp only [sliceBounds, HT.sIx, Option.getD_none, show (1 : Int) > 0 by decide, if_true]
      by_cases h : i < 0
      · simp only [h, if_true] <;> omega
      · simp only [h, if_false] <;> omega
theorem slicePick_cut (its : List Value) (lo hi : Option Int) : slicePick its.toArray lo hi none = ((its.drop (HT.sIx its.length 0 lo)).take (HT.sIx its.length its.length hi - HT.sIx its.length 0 lo)).toArray := by
  obtain ⟨h1, h2, h3⟩ := slice_bounds lo hi its.toArray.size
  unfold slicePick
  rw [h1, h2, h3]
  simp only [sliceRange_one, pick_run, List.size_toArray] <;> rfl
def rSlL (K : PySem.W.Frag) : V → Option Int → Option Int → Hp → VK → Prop := fun x lo hi H Q => ∃ a xs, x = .ref a ∧ SqL K H a xs ∧ ∀ p, H p = none → Q (.ref p) (upd H p (.lst (cutV xs lo hi)))
theorem sl_list : SlR X (rSlL X.K) := by
  intro pins s σ H x v vl vu lo hi sl Q I rx hs pl pu h
  obtain ⟨a, xs, rfl, hx, q⟩ := h
  cases rx
  obtain ⟨its, r, ht, hz⟩ := I.list hx
  have hlen := r.length
  refine ⟨"list", _, slot_list_getitem.lookup, ht.isList.typeIs, ?_⟩
  refine wpAny_getItem_list_slice ht.isList hs pl pu .none (by simp) ?_ (by rw [List.size_toArray] <;> omega)
  rw [slicePick_cut, ← hlen]
  refine ⟨.ref s.heap.objs.size, _, I.laid (t' := s.toks) (o := .lst (cutV xs lo hi)) (fun b ob q => Heap.get?_push_of_some _ q) (Nat.le_refl _) ?_, rfl, q _ (I.hok.fresh (Nat.le_refl _))⟩
  exact ⟨Nat.le_trans (cutV_length xs lo hi) hz, _, 0, (r.drop (HT.sIx xs.length 0 lo)).take (HT.sIx xs.length xs.length hi - HT.sIx xs.length 0 lo), Heap.get?_push_size _ rfl⟩
def flatV : V → Bool
  | .non => true
  | .bl _ => true
  | .int _ => true
  | .str _ => true
  | _ => false
def eqV : V → V → Bool
  | .non, .non => true
  | .bl a, .bl b => a == b
  | .bl a, .int b => (if a then 1 else 0) == b
  | .int a, .bl b => a == (if b then 1 else 0)
  | .int a, .int b => a == b
  | .str a, .str b => a == b
  | _, _ => false
theorem eqAt_V {A : Around} {s : Shared} {y x : V} {u v : Value} (ry : RelV y u) (rx : RelV x v) (fy : flatV y = true) (fx : flatV x = true) : SeqAt.EqAt A s u v (eqV y x) := by
  cases y with
  | non =>
    cases ry
    cases x with
    | non => cases rx; exact SeqAt.EqAt.same _
    | bl b => cases rx; exact SeqAt.EqAt.none_bool b
    | int b => obtain ⟨t, rfl⟩ := rx; exact SeqAt.EqAt.none_int b t
    | str b => obtain ⟨t, rfl⟩ := rx; exact SeqAt.EqAt.none_str b t
    | _ => exact absurd (show false = true from fx) Bool.false_ne_true
  | bl a =>
    cases ry
    cases x with
    | non => cases rx; exact SeqAt.EqAt.bool_none a
    | bl b => cases rx; exact SeqAt.EqAt.bool_bool a b
    | int b => obtain ⟨t, rfl⟩ := rx; exact SeqAt.EqAt.bool_int a b t
    | str b => obtain ⟨t, rfl⟩ := rx; exact SeqAt.EqAt.bool_str a b t
    | _ => exact absurd (show false = true from fx) Bool.false_ne_true
  | int a =>
    obtain ⟨t', rfl⟩ := ry
    cases x with
    | non => cases rx; exact SeqAt.EqAt.int_none a t'
    | bl b => cases rx; exact SeqAt.EqAt.int_bool a t' b
    | int b => obtain ⟨t, rfl⟩ := rx; exact SeqAt.EqAt.int_int a t' b t
    | str b => obtain ⟨t, rfl⟩ := rx; exact SeqAt.EqAt.int_str a t' b t
    | _ => exact absurd (show false = true from fx) Bool.false_ne_true
  | str a =>
    obtain ⟨t', rfl⟩ := ry
    cases x with
    | non => cases rx; exact SeqAt.EqAt.str_none a t'
    | bl b => cases rx; exact SeqAt.EqAt.str_bool a t' b
    | int b => obtain ⟨t, rfl⟩ := rx; exact SeqAt.EqAt.str_int a t' b t
    | str b => obtain ⟨t, rfl⟩ := rx; exact SeqAt.EqAt.str_str a t' b t
    | _ => exact absurd (show false = true from fx) Bool.false_ne_true
  | _ => exact absurd (show false = true from fy) Bool.false_ne_true
def eqU (x : V) (u : Value) : Bool := match u with
  | .none => eqV .non x
  | .bool b => eqV (.bl b) x
  | .int i _ => eqV (.int i) x
  | .str z _ => eqV (.str z) x
  | _ => false
theorem eqU_of {x y : V} {u : Value} (r : RelV y u) (f : flatV y = true) : eqU x u = eqV y x := by
  cases y with
  | non => cases r; rfl
  | bl b => cases r; rfl
  | int i => obtain ⟨t, rfl⟩ := r; rfl
  | str z => obtain ⟨t, rfl⟩ := r; rfl
  | _ => exact absurd (show false = true from f) Bool.false_ne_true
theorem any_eqU {x : V} : ∀ {xs : List V} {us : List Value}, Vals xs us → xs.all flatV = true → us.any (eqU x) = xs.any fun y => eqV y x
  | _, _, .nil, _ => rfl
  | y :: xs, u :: us, .cons r t, f => by
    rw [List.all_cons, Bool.and_eq_true] at f
    rw [List.any_cons, List.any_cons, eqU_of r f.1, any_eqU t f.2]
theorem mem_eqAt {A : Around} {s : Shared} {x : V} {v : Value} (rx : RelV x v) (fx : flatV x = true) : ∀ {xs : List V} {us : List Value}, Vals xs us → xs.all flatV = true → ∀ u ∈ us, SeqAt.EqAt A s u v (eqU x u)
  | _, _, .nil, _ => fun u hu => by cases hu
  | y :: xs, u :: us, .cons r t, f => fun u' hu => by
    rw [List.all_cons, Bool.and_eq_true] at f
    rcases List.mem_cons.mp hu with rfl | hu
    · rw [eqU_of r f.1]; exact eqAt_V r rx f.1 fx
    · exact mem_eqAt rx fx t f.2 u' hu
def inV (x : V) (xs : List V) : Bool := xs.any fun y => eqV y x
def rIn (K : PySem.W.Frag) (neg : Bool) : R2 := fun x y H Q => ∃ p xs, y = .ref p ∧ (SqL K H p xs ∨ SqT K H p xs) ∧ flatV x = true ∧ xs.all flatV = true ∧ Q (.bl (if neg then !inV x xs else inV x xs)) H
theorem op_in_seq : OpR X (compareOp .In) (rIn X.K false) := by
  intro pins s σ H x y v u Q I rx ry h
  obtain ⟨p, xs, rfl, hq, fx, fs, q⟩ := h
  cases ry
  rcases hq with hq | hq
  · obtain ⟨its, r, pl, hz⟩ := I.list hq
    refine SeqAt.in_listAt (eqU x) pl.isList (fun w hw => mem_eqAt rx fx r fs w (by simpa using hw)) ⟨.bl _, H, I, rfl, ?_⟩
    rw [show its.toArray.any (eqU x) = its.any (eqU x) by simp, any_eqU r fs]
    exact q
  · obtain ⟨its, r, pl, hz⟩ := I.tuple hq
    refine SeqAt.in_tupleAt (eqU x) pl (fun w hw => mem_eqAt rx fx r fs w (by simpa using hw)) ⟨.bl _, H, I, rfl, ?_⟩
    rw [show its.toArray.any (eqU x) = its.any (eqU x) by simp, any_eqU r fs]
    exact q
theorem call_len_seq : CallR X (.builtin "len") (fun xs H Q => ∃ p ys, xs = [.ref p] ∧ (SqL X.K H p ys ∨ SqT X.K H p ys) ∧ Q (.int ys.length) H) := by
  intro pins s σ H xs us Q I r h
  obtain ⟨p, ys, rfl, hq, q⟩ := h
  obtain ⟨u, rfl, rx⟩ := vals1 r
  cases rx
  have hn := line63
  rcases hq with hq | hq
  · obtain ⟨its, r', pl, hz⟩ := I.list hq
    have hlen := r'.length
    exact Calls.call_len_list pl.isList (by simp only [List.size_toArray] <;> omega) ⟨.int ys.length, H, I.tok _, ⟨s.toks + 1, by rw [List.size_toArray, hlen]⟩, q⟩
  · obtain ⟨its, r', pl, hz⟩ := I.tuple hq
    have hlen := r'.length
    exact len_tuple pl (by simp only [List.size_toArray] <;> omega) ⟨.int ys.length, H, I.tok _, ⟨s.toks + 1, by rw [List.size_toArray, hlen]⟩, q⟩
theorem call_list_of : CallR X (.type "list") (fun xs H Q => ∃ p ys, xs = [.ref p] ∧ (SqL X.K H p ys ∨ SqT X.K H p ys) ∧ ∀ l, H l = none → Q (.ref l) (upd H l (.lst ys))) := by
  intro pins s σ H xs us Q I r h
  obtain ⟨p, ys, rfl, hq, q⟩ := h
  obtain ⟨u, rfl, rx⟩ := vals1 r
  cases rx
  have fin : ∀ (its : List Value), Vals ys its → ys.length ≤ sizeLine → ∀ (h' : Heap) (c' : Nat), (∀ b o', s.heap.get? b = some o' → h'.get? b = some o') →
      h'.get? s.heap.objs.size = some { cls := .type "list", dict := none, data := .seq its.toArray c', slots := #[] } → EP X pins σ Q (.ref s.heap.objs.size) { s with heap := h' } := fun its r' hz h' c' kp e =>
    ⟨.ref s.heap.objs.size, _, I.laid (t' := s.toks) kp (Nat.le_refl _) (show ObjOk X.prog X.w _ h' _ (.lst ys) from ⟨hz, its, c', r', e⟩), rfl, q _ (I.hok.fresh (Nat.le_refl _))⟩
  rcases hq with hq | hq
  · obtain ⟨its, r', pl, hz⟩ := I.list hq
    have hlen := r'.length
    obtain ⟨o, ho, hc, n, hd⟩ := pl.isList
    exact call_list_seq p (.inl rfl) ho hc hd (fun h' c' kp e => fin its r' hz h' c' kp e) (by simp only [List.size_toArray] <;> omega)
  · obtain ⟨its, r', pl, hz⟩ := I.tuple hq
    have hlen := r'.length
    obtain ⟨o, ho, hc, n, hd⟩ := pl
    exact call_list_seq p (.inr rfl) ho hc hd (fun h' c' kp e => fin its r' hz h' c' kp e) (by simp only [List.size_toArray] <;> omega)
def tyV (K : PySem.W.Frag) (T : String) (x : V) (H : Hp) : Prop := match x with
  | .str _ => T = "str"
  | .int _ => T = "int"
  | .ref p => (T = "list" ∧ ∃ xs, SqL K H p xs) ∨ (T = "tuple" ∧ ∃ o, K.lookup p = some o ∧ o.cls = .type "tuple" ∧ o.dict = none) ∨
      (T = "dict" ∧ ((∃ kvs, H p = some (.dK kvs)) ∨ ∃ kvs, H p = some (.dT kvs))) ∨ (T = "set" ∧ ∃ S n, H p = some (.set S n))
  | _ => False
theorem tyV_is {pins : List (Addr × Obj)} {σ : St} {H : Hp} {s : Shared} {T : String} {x : V} {v : Value} (I : Inv X pins σ H s) (r : RelV x v) (ty : tyV X.K T x H) :
    s.TypeIs v T ∧ ∀ a, v = .ref a → ∃ ob, s.heap.get? a = some ob ∧ ob.dict = none := by
  cases x with
  | str z =>
    obtain ⟨t, rfl⟩ := r
    cases (show T = "str" from ty)
    exact ⟨typeIs_str s z t, fun _ e => nomatch e⟩
  | int i =>
    obtain ⟨t, rfl⟩ := r
    cases (show T = "int" from ty)
    exact ⟨typeIs_int s i t, fun _ e => nomatch e⟩
  | ref p =>
    cases r
    rcases ty with ⟨rfl, xs, hq⟩ | ⟨rfl, o, hk, hc, hd⟩ | ⟨rfl, hk⟩ | ⟨rfl, S, n, hk⟩
    · obtain ⟨its, _, pl, _⟩ := I.list hq
      refine ⟨pl.isList.typeIs, fun a e => ?_⟩
      cases e
      obtain ⟨o, n, e, c, hd, _⟩ := pl
      exact ⟨o, e, hd⟩
    · refine ⟨⟨o, I.kIn p o hk, hc⟩, fun a e => ?_⟩
      cases e
      exact ⟨o, I.kIn _ o hk, hd⟩
    · have z : ∃ o, s.heap.get? p = some o ∧ o.ExactDict := by
        rcases hk with ⟨kvs, hk⟩ | ⟨kvs, hk⟩
        · obtain ⟨_, _, _, _, o, _, _, e, ex, _⟩ := I.hok p _ hk
          exact ⟨o, e, ex⟩
        · obtain ⟨_, _, _, _, o, _, _, e, ex, _⟩ := I.hok p _ hk
          exact ⟨o, e, ex⟩
      obtain ⟨o, e, ex⟩ := z
      refine ⟨⟨o, e, ex.1⟩, fun a e2 => ?_⟩
      cases e2
      exact ⟨o, e, ex.2.1⟩
    · obtain ⟨o, _, _, _, e, ex, _⟩ := I.hok p _ hk
      refine ⟨⟨o, e, ex.1⟩, fun a e2 => ?_⟩
      cases e2
      exact ⟨o, e, ex.2.1⟩
  | _ => exact False.elim ty
def tBM0 (K : PySem.W.Frag) (T : String) (r : V → List V → Hp → VK → Prop) (to : TE) : TE := fun σ H Q => to σ H fun x H1 => tyV K T x H1 ∧ r x [] H1 Q
def tBM (K : PySem.W.Frag) (T : String) (r : V → List V → Hp → VK → Prop) (to : TE) (t : TA) : TE := fun σ H Q => to σ H fun x H1 => tyV K T x H1 ∧ t σ H1 fun xs H2 => r x xs H2 Q
variable {o e : Expr} {es : List Expr} {to : TE} {t : TA} {name : Str} {apos cpos : Pos} {T id : String} {r : V → List V → Hp → VK → Prop}
theorem pe_bm0 (pa : PlainAttrs T) (slot : Slot T name id) (hty : typeOf (.builtin id) = pure (.type "method_descriptor")) (hm : MtR X id r) (ho : PE X o to)
    (hbase : attributeBase o name X.env (eval o X.env) = eval o X.env := by rfl) (hline : (apos.endLine == cpos.line) = true := by rfl) : PE X (.Call (.Attribute o name apos) [] [] cpos) (tBM0 X.K T r to) := by
  intro pins s σ H Q I h
  refine wpAny_Call_method0_late hbase hline (thn (ho pins s σ H _ I h) fun v s1 ⟨x, H1, I1, r1, ty, q1⟩ => ?_)
  obtain ⟨h1, h2⟩ := tyV_is I1 r1 ty
  exact ⟨T, id, pa, slot, hty, h1, h2, Calls.callWith_builtin rfl (PySem.evalArgs_none (hm pins s1 σ H1 x [] v [] Q I1 r1 .nil q1))⟩
theorem pe_bm (pa : PlainAttrs T) (slot : Slot T name id) (hty : typeOf (.builtin id) = pure (.type "method_descriptor")) (hm : MtR X id r) (ho : PE X o to) (ha : PA X (e :: es) t)
    (hbase : attributeBase o name X.env (eval o X.env) = eval o X.env := by rfl)
    (hfew : ((backTo cpos (starEach (e :: es) X.env)).all (fun x => !x.1) && (backToKw cpos (keywordEach [] X.env)).all (fun x => x.1.isSome)
      && decide ((e :: es).length + ([] : List Keyword).length + (if ([] : List Keyword).isEmpty then 0 else 1) < 30)) = true := by rfl)
    (hline : (apos.endLine == cpos.line) = true := by rfl) (hs : starEach (e :: es) X.env = (false, eval e X.env) :: starEach es X.env := by rfl) (hplain : (backTo cpos (starEach es X.env)).any (·.1) = false := by rfl) :
    PE X (.Call (.Attribute o name apos) (e :: es) [] cpos) (tBM X.K T r to t) := by
  intro pins s σ H Q I h
  refine wpAny_Call_method_late hbase hfew hline rfl (thn (ho pins s σ H _ I h) fun v s1 ⟨x, H1, I1, r1, ty, q1⟩ => ?_)
  obtain ⟨h1, h2⟩ := tyV_is I1 r1 ty
  refine ⟨T, id, pa, slot, hty, h1, h2, ?_⟩
  have hA := ha cpos pins s1 σ H1 _ I1 q1
  rw [hs] at hA ⊢
  refine Calls.callWith_builtin (by show (false || (backTo cpos (starEach es X.env)).any (·.1)) = false; rw [hplain] <;> rfl) (Calls.evalArgs_plain ?_)
  exact thn hA fun us s2 ⟨vs, H2, I2, r2, q2⟩ => hm pins s2 σ H2 x vs v us Q I2 r1 r2 q2
end
end L2
namespace L2
open PySem PySem.Spec PyProof.Rows
def MtM (X : Cx) (id : String) (r : V → List V → Hp → VK → Prop) : Prop :=
  ∀ (pins : List (Addr × Obj)) (s : Shared) (σ : St) (H : Hp) (x : V) (xs : List V) (v : Value) (us : List Value) (Q : VK), Inv X pins σ H s → RelV x v → Vals xs us → r x xs H Q →
    wpAny (model X.prog X.w) X.A (call (.builtin id) (v :: us)) (EP X pins σ Q) X.xe s
theorem Vals.one : ∀ {x : V} {us : List Value}, Vals [x] us → ∃ u, us = [u] ∧ RelV x u
  | _, _, .cons r .nil => ⟨_, rfl, r⟩
theorem Vals.rep {xs : List V} {us : List Value} (h : Vals xs us) : ∀ k : Nat, Vals (List.replicate k xs).flatten (List.replicate k us).flatten
  | 0 => .nil
  | k + 1 => by
    rw [List.replicate_succ, List.replicate_succ, List.flatten_cons, List.flatten_cons]
    exact Vals.append h (Vals.rep h k)
theorem foldl_rep (its : List Value) : ∀ (k : Nat) (acc : List Value),
    List.foldl (fun x1 x2 => x1 ++ x2) acc.toArray (List.replicate k its.toArray) = (acc ++ (List.replicate k its).flatten).toArray
  | 0, acc => by simp
  | k + 1, acc => by
    have e : acc.toArray ++ its.toArray = (acc ++ its).toArray := by simp
    have e2 : (acc ++ its) ++ (List.replicate k its).flatten = acc ++ (List.replicate (k + 1) its).flatten := by
      rw [List.replicate_succ, List.flatten_cons, List.append_assoc]
    rw [← e2, ← foldl_rep its k (acc ++ its), ← e, List.replicate_succ, List.foldl_cons]
section
variable {X : Cx} {pins : List (Addr × Obj)} {σ : St} {H : Hp} {s : Shared} {l b : Addr} {xs ys zs : List V}
theorem Inv.lset {its its' : List Value} {n : Nat} {f : Array Value → Array Value} {t' : Nat} (I : Inv X pins σ H s) (hH : H l = some (.lst xs))
    (e : s.heap.get? l = some { cls := .type "list", data := .seq its.toArray n }) (hf : f its.toArray = its'.toArray) (hv : Vals ys its') (hz : ys.length ≤ sizeLine) :
    Inv X pins σ (upd H l (.lst ys)) { s with heap := s.heap.update l (Obj.mapSeq f), toks := t' } := by
  have q := PySem.IsL.update e f
  rw [hf] at q
  refine I.write (x := l) (e := l) (by rw [hH]; exact trivial) (.inl rfl) (fun b' u hb hu => (Heap.get?_update_other s.heap (Obj.mapSeq f) (Ne.symm hb)).trans hu) ⟨_, q⟩ ?_
  exact ⟨hz, its', _, hv, q⟩
theorem Inv.lnew {its : List Value} {t' : Nat} (I : Inv X pins σ H s) (hv : Vals ys its) (hz : ys.length ≤ sizeLine) :
    Inv X pins σ (upd H s.heap.objs.size (.lst ys)) { s with heap := s.heap.push { cls := .type "list", data := .seq its.toArray }, toks := t' } :=
  I.laid (fun _ _ q => Heap.get?_push_of_some _ q) (Nat.le_refl _) ⟨hz, its, 0, hv, Heap.get?_push_size _ rfl⟩
theorem Inv.fresh (I : Inv X pins σ H s) : H s.heap.objs.size = none := I.hok.fresh (Nat.le_refl _)
theorem Inv.lstM (I : Inv X pins σ H s) (hH : H l = some (.lst xs)) : xs.length ≤ sizeLine ∧ ∃ (its : List Value) (n : Nat), Vals xs its ∧ xs.length = its.length ∧ s.heap.get? l = some { cls := .type "list", data := .seq its.toArray n } := by
  obtain ⟨z, its, n, r, e⟩ := I.hok l _ hH
  exact ⟨z, its, n, r, r.length, e⟩
theorem notLongL {n : Nat} (h : n ≤ sizeLine) : Builtin.List.listTooLong n = false := by
  unfold Builtin.List.listTooLong
  exact decide_eq_false (by omega)
end
section
variable {X : Cx}
def rAppend : V → List V → Hp → VK → Prop := fun x vs H Q => ∃ l xs y, x = .ref l ∧ vs = [y] ∧ H l = some (.lst xs) ∧ xs.length < sizeLine ∧ Q .non (upd H l (.lst (xs ++ [y])))
theorem mt_append : MtM X "list.append" rAppend := by
  intro pins s σ H x vs v us Q I rx rv h
  obtain ⟨l, xs, y, rfl, rfl, hH, hz, q⟩ := h
  cases rx
  obtain ⟨u, rfl, ru⟩ := rv.one
  obtain ⟨z, its, n, r, hl, e⟩ := I.lstM hH
  refine call_meets F.slot_list_append ⟨_, e, rfl⟩ F.entry_list_append (F.args_list_append_2 _ _) (PySem.list_append l its.toArray n u (by rw [List.size_toArray]; omega)) ⟨e, ?_⟩
  refine ⟨.non, _, I.lset (its' := its ++ [u]) hH e (by simp) (r.append (.cons ru .nil)) ?_, rfl, q⟩
  rw [List.length_append, List.length_singleton]
  omega
def rCat : R2 := fun x y H Q => ∃ l b xs zs, x = .ref l ∧ y = .ref b ∧ H l = some (.lst xs) ∧ H b = some (.lst zs) ∧ xs.length + zs.length ≤ sizeLine ∧ ∀ p, H p = none → Q (.ref p) (upd H p (.lst (xs ++ zs)))
theorem op_cat : OpR X (binaryOp .Add) rCat := by
  intro pins s σ H x y v u Q I rx ry h
  obtain ⟨l, b, xs, zs, rfl, rfl, hH, hB, hz, q⟩ := h
  cases rx
  cases ry
  obtain ⟨z, its, n, r, hl, e⟩ := I.lstM hH
  obtain ⟨z2, its2, n2, r2, hl2, e2⟩ := I.lstM hB
  refine PySem.P.add_list e e2 ?_ (by rw [List.size_toArray, List.size_toArray]; omega)
  have ea : its.toArray ++ its2.toArray = (its ++ its2).toArray := by simp
  rw [ea]
  exact ⟨.ref _, _, I.lnew (t' := s.toks) (r.append r2) (by rw [List.length_append]; omega), rfl, q _ I.fresh⟩
def rRep : R2 := fun x y H Q => ∃ l k xs, x = .ref l ∧ y = .int k ∧ H l = some (.lst xs) ∧ -(2 ^ 63) ≤ k ∧ k < 2 ^ 63 ∧ xs.length * k.toNat ≤ sizeLine ∧
  ∀ p, H p = none → Q (.ref p) (upd H p (.lst (List.replicate k.toNat xs).flatten))
theorem len_rep {α : Type} (xs : List α) (k : Nat) : (List.replicate k xs).flatten.length = k * xs.length := by
  induction k with
  | zero => simp
  | succ k ih => rw [List.replicate_succ, List.flatten_cons, List.length_append, ih, Nat.succ_mul, Nat.add_comm]
theorem op_rep : OpR X (binaryOp .Mult) rRep := by
  intro pins s σ H x y v u Q I rx ry h
  obtain ⟨l, k, xs, rfl, rfl, hH, h1, h2, hz, q⟩ := h
  cases rx
  obtain ⟨t, rfl⟩ := ry
  obtain ⟨z, its, n, r, hl, e⟩ := I.lstM hH
  have hlen : its.toArray.size * k.toNat ≤ sizeLine := by rw [List.size_toArray, ← hl]; exact hz
  have hcap : ¬ its.toArray.size * k.toNat > (2 ^ 63 - 1) / 8 := by
    have : (sizeLine : Nat) ≤ (2 ^ 63 - 1) / 8 := by decide
    omega
  have hfit : ¬ (!Builtin.List.listFitsIndex k) = true := by
    rw [fitsIndex_both h1 h2]
    exact Bool.false_ne_true
  have hlong : ¬ Builtin.List.listTooLong (its.toArray.size * k.toNat) = true := by
    rw [notLongL hlen]
    exact Bool.false_ne_true
  have hnew : List.foldl (fun x1 x2 => x1 ++ x2) #[] (List.replicate (if its.toArray.isEmpty = true then 0 else k.toNat) its.toArray) = (List.replicate k.toNat its).flatten.toArray := by
    have f0 : ∀ m : Nat, List.foldl (fun x1 x2 => x1 ++ x2) #[] (List.replicate m its.toArray) = (List.replicate m its).flatten.toArray := fun m => by
      have := foldl_rep its m []
      rw [List.nil_append] at this
      exact this
    rw [f0]
    cases its with
    | nil => simp
    | cons a r' => rw [if_neg (by simp)]
  refine wpAny_binaryOp_repeat_ref (T := "list") (U := "int") (by decide) ⟨_, e, rfl⟩ (fun s' => typeIs_int s' k t) noFill_list_mul F.fills_int_mul F.slot_int_rmul repeat_list F.slot_int_index.lookup
    (call_meets F.slot_int_rmul (typeIs_int s k t) F.entry_int_rmul (F.args_int_rmul_2 _ _) (int___rmul___int_list k t l its.toArray n)
      ⟨e, rfl, ⟨_, e, rfl⟩, call_meets F.slot_list_mul ⟨_, e, rfl⟩ F.entry_list_mul (F.args_list_mul_2 _ _) (AutoListH.list___mul___list_int_3 l its.toArray n k t hfit hcap hlong) ⟨e, ?_⟩⟩)
  rw [hnew]
  exact ⟨.ref _, _, I.lnew (t' := s.toks) (r.rep k.toNat) (by rw [len_rep, Nat.mul_comm]; exact hz), rfl, q _ I.fresh⟩
end
end L2
namespace Att
open PySem PySem.W PySem.Calls PyProof.Rows
theorem ints_of_wellAll {P : Params} {h : Heap} : ∀ (ns : List Int) (vs : List Value), WellAll P h vs (ns.map WData.int) → IntsAre vs ns := by
  intro ns
  induction ns with
  | nil =>
    intro vs w
    rw [List.map_nil] at w
    cases w
    exact .nil
  | cons n ns ih =>
    intro vs w
    rw [List.map_cons] at w
    cases w with
    | cons a b =>
      cases a
      exact .cons _ _ (ih _ b)
theorem script_of {l : OpenLaw} {n : Nat} (hn : l.most = some n) {P : Params} {h : Heap} {args : List WData} {vals : List Value}
    (hpre : l.row.toRowW.claim.pre args = true) (hwl : WellAll P h vals args) :
    ∃ a vs ns, vals = [Value.ref a] ∧ args = [WData.list (ns.map WData.int)] ∧ h.get? a = some { cls := .type "list", data := .seq vs.toArray } ∧ IntsAre vs ns ∧ ns.length ≤ n := by
  have hsh : WShape.hasAll [] args [.list .int] = true := (pre_splitW hpre).1
  have hc : l.pre.holds [] { args := args } = true := (pre_splitW hpre).2
  obtain ⟨d, r, rfl, h1, h2⟩ := hasAllW_cons hsh
  obtain rfl := hasAllW_nil h2
  obtain ⟨xs, rfl, h3⟩ := hasW_list h1
  obtain ⟨ns, rfl⟩ := items_int h3
  have hlen : ns.length ≤ n := by
    unfold OpenLaw.pre at hc
    have h4 : (WTm.not (.lt (.lit (.int (n : Int))) (.len (.arg 0)))).holds [] { args := [.list (ns.map .int)] } = true := by
      have h4 := (holds_andW hc).1
      rw [hn] at h4
      exact h4
    have h5 := condW_of h4 (w_not (w_lt w_lit (w_len_list (w_arg rfl))))
    rw [List.length_map] at h5
    refine Nat.le_of_not_lt fun q => ?_
    have q' : (n : Int) < ((ns.length : Nat) : Int) := by omega
    first
      | (rw [decide_eq_true q'] at h5; exact absurd h5 (by decide))
      | (simp at h5; omega)
  cases hwl with
  | cons w1 w2 =>
    cases w2
    cases w1 with
    | list ho hall => exact ⟨_, _, ns, rfl, rfl, ho, ints_of_wellAll ns _ hall, hlen⟩
theorem post_true (l : OpenLaw) (args : List WData) : l.row.toRowW.claim.post args (.bool true) args = true :=
  postW_of (r := l.row.toRowW) (X := (true == true))
    (show WShape.has [] (.bool true) .bool = true by first | rfl | decide | simp [WShape.has, WShape.arms, WShape.armsAll])
    (show (WTm.eq .res (.lit (.bool true))).value [] { args := args, res := some (.bool true), after := args } = some (.bool (true == true)) from w_eq_bool (w_res rfl) w_lit) rfl
theorem attach_call {l : OpenLaw} {n : Nat} {q : Program} {loose : List Str} {XP : (Str → Option Value) → Heap → Prop} {YP : World → Heap → Prop} {d : DefRec}
    (hn : l.most = some n) (hdf : d.params.defaults = [])
    (call : ∀ (w : World) (s₀ s₁ : Shared) (mg mb : Str → Option Value) (fa : Addr) (o : Obj) (pm cd doc : Value) (a : Addr) (vs : List Value) (ns : List Int),
      Ground q loose [] XP w s₀ mg mb s₁.heap → YP w s₁.heap →
      s₁.heap.get? fa = some o → o.data = .func (docDef d.name d.params d.body d.scope pm cd doc) → s₁.heap.CodeRec cd d.name → mg d.name = some (.ref fa) →
      s₁.heap.get? a = some { cls := .type "list", data := .seq vs.toArray } → IntsAre vs ns → ns.length ≤ n → s₁.gens = #[] →
      codeAny (model l.prog w) callerA (.call (.ref fa) ⟨[.ref a], []⟩) (fun r s' => r = .ok (.ret (.bool true)) ∧ OldK s₁.heap s'.heap ∧ s'.os = s₁.os ∧ AllBare s'.gens) s₁) :
    WalkO q loose XP YP l.row.toRowW d [] (fun f vs => PySem.call f vs) := by
  intro w s₀ s₁ mg mb G Y fa o pm cd doc dV kV ho hd hcd hD hmg hg args vals as hpre hlay hrd hwl hlo
  obtain rfl : dV = .none := Dflts.none hD hdf
  obtain rfl : kV = .none := Dflts.noKw hD
  obtain ⟨a, vs, ns, rfl, rfl, hobj, hints, hlen⟩ := script_of hn hpre hwl
  refine enter_call (codeAny_mono (call w s₀ s₁ mg mb fa o pm cd doc a vs ns G Y ho (fd_plain hd) hcd hmg hobj hints hlen hg) fun r s' hq => ?_)
  obtain ⟨rfl, h2, h3, h4⟩ := hq
  exact ⟨.inl ⟨.bool true, .bool true, [], rfl, fun _ => rfl, .bool true, post_true l _, fun _ => ⟨List.Pairwise.nil, fun _ hm => (nomatch hm)⟩⟩, h2, h3, h4⟩
end Att
namespace L2
open PySem PySem.Spec PyProof.Rows
theorem vals_ints : ∀ {vs : List Value} {ns : List Int}, IntsAre vs ns → Vals (ns.map V.int) vs
  | _, _, .nil => .nil
  | _, _, .cons n t h => .cons ⟨t, rfl⟩ (vals_ints h)
def Only (H : Hp) : Prop := ∀ b, H b = none ∨ ∃ o xs, H b = some (.frz o (.lst xs))
theorem law_call {P : Program} {w : World} {K : PySem.W.Frag} {mg mb : Str → Option Value} {CX : CXT} {k : Nat} {fa a : Addr} {fd : FuncData} {x : Str} {sp : Sp} {s₁ : Shared} {vs : List Value} {ns : List Int}
    (KX : K.In s₁.heap) (hns : s₁.heap.Ns mainGlobals mg) (hb : s₁.heap.Ns builtinsNs mb) (hbb : ∀ x : Str, x ≠ "__name__" → mb x = bootBuiltins x) (hlim : s₁.heap.NoLimit) (hg : s₁.gens = #[])
    (ha : s₁.heap.get? a = some { cls := .type "list", data := .seq vs.toArray }) (hi : IntsAre vs ns) (hl : ns.length ≤ sizeLine) (hr : Room k callerA)
    (F : ∀ base : Heap, K.In base → base.Ns mainGlobals mg → FnOk P w K mg base CX k fa fd [x] sp) (hbind : ∀ (s : Shared) (u : Value), BindsTo s fd ⟨[u], []⟩ [(x, u)])
    (hsp : ∀ H : Hp, Only H → SqL K H a (ns.map V.int) → sp [.ref a] H (fun v _ => v = .bl true) fun _ _ _ => False)
    (hCX : ∀ H e s', CX [] H s₁ (fun _ _ _ => False) e s' → False) :
    codeAny (model P w) callerA (.call (.ref fa) ⟨[.ref a], []⟩) (fun r s' => r = .ok (.ret (.bool true)) ∧ OldK s₁.heap s'.heap ∧ s'.os = s₁.os ∧ AllBare s'.gens) s₁ := by
  have rv := vals_ints hi
  have lenV := hi.length
  -- from an abstract heap in which nothing but the script may be tracked
  have core : ∀ H : Hp, Only H → SqL K H a (ns.map V.int) → HOk P w H s₁.heap → (∀ b, H b ≠ none → b = a) → (H a ≠ none → K.lookup a = none) →
      codeAny (model P w) callerA (.call (.ref fa) ⟨[.ref a], []⟩) (fun r s' => r = .ok (.ret (.bool true)) ∧ OldK s₁.heap s'.heap ∧ s'.os = s₁.os ∧ AllBare s'.gens) s₁ := by
    intro H hO hS hok hA hK
    have base_of : ∀ {b : Addr} {o : Obj}, s₁.heap.get? b = some o → H b = none → (hidT s₁.heap H).get? b = some o := fun e n => hidT_get e n
    have noA : ∀ {b : Addr} {o : Obj} {es : Array DictEntry} {ep : Nat}, s₁.heap.get? b = some o → o.data = .dict es ep → H b = none := fun {b o es ep} e d => by
      cases q : H b with
      | none => rfl
      | some u =>
        have e' : b = a := hA b (by rw [q]; simp)
        subst e'
        rw [ha] at e; cases e
        have d' : Data.seq vs.toArray _ = Data.dict es ep := d
        cases d'
    have nsK : ∀ {b : Addr} {m : Str → Option Value}, s₁.heap.Ns b m → (hidT s₁.heap H).Ns b m := fun {b m} ⟨o, es, ep, e, d, r⟩ => ⟨o, es, ep, base_of e (noA e d), d, r⟩
    have hKb : K.In (hidT s₁.heap H) := fun b o e => base_of (KX b o e) (by
      cases q : H b with
      | none => rfl
      | some u =>
        have e' : b = a := hA b (by rw [q]; simp)
        subst e'
        rw [hK (by rw [q]; simp)] at e; cases e)
    have hM : Mod K mg (hidT s₁.heap H) := ⟨hKb, nsK hns, ⟨mb, nsK hb, hbb⟩, let ⟨mc, h1, h2⟩ := hlim; ⟨mc, nsK h1, h2⟩⟩
    have e0 : Env0 P w K mg (hidT s₁.heap H) callerA [] s₁ H := ⟨rfl, hM, fun b o e => of_hidT e, Nat.le_of_eq (hidT_size _ _), trivial, fun b hb => absurd (show b ∈ ([] : List Addr) from hb) (by simp), hok, .of_eq hg⟩
    refine codeAny_mono ((F _ hKb (nsK hns)).run callerA [] s₁ H ⟨[.ref a], []⟩ [.ref a] [.ref a] _ _ hr e0 (hbind s₁ (.ref a)) (.cons rfl .nil) (hsp H hO hS)) fun r s' h => ?_
    cases r with
    | error e => exact (hCX H e s' h).elim
    | ok fl =>
      cases fl with
      | next => exact False.elim h
      | brk => exact False.elim h
      | cont => exact False.elim h
      | ret u =>
        obtain ⟨v, H', os, bare, un, hok', r', q⟩ := h
        have q' : v = .bl true := q
        subst q'
        obtain rfl : u = Value.bool true := r'
        refine ⟨rfl, OldK.of_keep fun b o e => ?_, os, bare⟩
        cases q : H b with
        | none => exact un.keep b o e q (by intro z; exact absurd (show b ∈ ([] : List Addr) from z) (by simp)) (by simp)
        | some u =>
          rcases hO b with z | ⟨ob, xs, z⟩
          · rw [q] at z; cases z
          · have z2 := un.frzs b ob _ z
            obtain ⟨e1, _⟩ := hok b _ z
            obtain ⟨e2, _⟩ := hok' b _ z2
            rw [e] at e1; cases e1
            exact e2
  cases hk : K.lookup a with
  | some o =>
    -- the script is one of the module's own objects
    have e := KX a o hk
    rw [ha] at e
    cases e
    refine core (fun _ => none) (fun _ => .inl rfl) (.inr ⟨_, vs.toArray, _, hk, rfl, rfl, rfl, by rw [List.size_toArray, lenV]; exact hl, by simpa using rv⟩) (fun b u z => by have z' : (none : Option HO) = some u := z; cases z') (fun b z => absurd rfl z) fun z => absurd rfl z
  | none =>
    refine core (fun b => if b = a then some (.frz { cls := .type "list", data := .seq vs.toArray } (.lst (ns.map V.int))) else none) (fun b => ?_) (.inl (.inr ⟨{ cls := .type "list", data := .seq vs.toArray }, if_pos rfl⟩)) (fun b u z => ?_) (fun b z => ?_) fun _ => hk
    · by_cases hb : b = a
      · exact .inr ⟨_, _, if_pos hb⟩
      · exact .inl (if_neg hb)
    · by_cases hb : b = a
      · have z' := (if_pos hb).symm.trans z
        cases z'
        subst hb
        exact ⟨ha, by rw [List.length_map]; exact hl, vs, _, rv, ha⟩
      · have z' := (if_neg hb).symm.trans z
        cases z'
    · by_cases hb : b = a
      · exact hb
      · exact absurd (if_neg hb) z
end L2
namespace L2
open PySem PySem.Spec PyProof.Rows
abbrev KOf {K : PySem.W.Frag} {h : Heap} (_ : K.In h) : PySem.W.Frag := K
theorem walk_of {l : PySem.W.OpenLaw} {n k : Nat} {q : Program} {loose : List Str} {XP : (Str → Option Value) → Heap → Prop} {YP : World → Heap → Prop} {d : DefRec} {K : Params → PySem.W.Frag} {CX : World → CXT} {sp : World → Sp} {x : Str}
    (hn : l.most = some n) (hn2 : n ≤ sizeLine) (hdf : d.params.defaults = []) (hr : Room k callerA)
    (hY : ∀ (w : World) (h : Heap), YP w h → (K w.params).In h)
    (F : ∀ (w : World) (mg : Str → Option Value) (fa : Addr) (h : Heap), (K w.params).In h → h.Ns mainGlobals mg → mg d.name = some (.ref fa) →
      ∃ fd : FuncData, (∀ (s : Shared) (u : Value), BindsTo s fd ⟨[u], []⟩ [(x, u)]) ∧
        ∀ base : Heap, (K w.params).In base → base.Ns mainGlobals mg → FnOk l.prog w (K w.params) mg base (CX w) k fa fd [x] (sp w))
    (hsp : ∀ (w : World) (H : Hp) (a : Addr) (ns : List Int), ns.length ≤ n → Only H → SqL (K w.params) H a (ns.map V.int) → sp w [.ref a] H (fun v _ => v = .bl true) fun _ _ _ => False)
    (hCX : ∀ (w : World) (H : Hp) (s : Shared) (e : Value) (s' : Shared), CX w [] H s (fun _ _ _ => False) e s' → False) :
    PySem.W.WalkO q loose XP YP l.row.toRowW d [] (fun f vs => PySem.call f vs) := by
  refine Att.attach_call hn hdf fun w s₀ s₁ mg mb fa o pm cd doc a vs ns G Y ho hd hcd hmg hobj hints hlen hg => ?_
  have KX := hY w _ Y
  obtain ⟨fd, hb, hF⟩ := F w mg fa _ KX G.T.g hmg
  exact law_call KX G.T.g G.T.b G.T.builtins G.T.nolimit hg hobj hints (Nat.le_trans hlen hn2) hr hF hb (fun H hO hS => hsp w H a ns hlen hO hS) fun H e s' => hCX w H s₁ e s'
end L2
namespace L2
open PySem PySem.Spec PyProof.Rows
def inClass (s : Stmt) (j : Nat) : Stmt := match s with
  | .ClassDef _ _ _ body _ _ _ _ _ _ _ => body.getD j (.Pass ⟨0, 0, 0, 0⟩)
  | _ => .Pass ⟨0, 0, 0, 0⟩
def defArgs (s : Stmt) : Arguments := match s with
  | .FunctionDef _ a _ _ _ _ _ _ _ _ => a
  | _ => { posonlyargs := [], args := [], vararg := none, kwonlyargs := [], kw_defaults := [], kwarg := none, defaults := [] }
def defBody (s : Stmt) : List Stmt := match s with
  | .FunctionDef _ _ b _ _ _ _ _ _ _ => b
  | _ => []
def defScope (s : Stmt) : Scope := match s with
  | .FunctionDef _ _ _ _ _ _ sc _ _ _ => sc
  | _ => { kind := .function, names := [], isGenerator := false, isCoroutine := false }
abbrev E0 : XK := fun _ _ _ => False
structure Fun (K : PySem.W.Frag) (x qual : Str) (st : Stmt) (f : Addr) (fd : FuncData) : Prop where
  ex : ∃ (oc : Value) (od : Option Addr) (kV doc pm : Value) (an : Option Addr) (cdv ct : Value) (osl : Array (Option Value)),
    fd = PySem.W.fnOf x qual (defArgs st) (defBody st) (defScope st) .none kV doc pm an cdv ct ∧ K.lookup f = some ⟨oc, od, .func fd, osl⟩ ∧ PySem.W.codeIn K cdv qual = true
  kp : PySem.W.keepIn K (.ref f) = true
section
variable {P : Program} {w : World} {K : PySem.W.Frag} {mg : Str → Option Value} {base : Heap}
theorem Fun.binds {x qual : Str} {st : Stmt} {f : Addr} {fd : FuncData} {ps : List Str} (F : Fun K x qual st f fd)
    (h : ∀ (kV doc pm : Value) (an : Option Addr) (cdv ct : Value) (us : List Value), us.length = ps.length → bindArgs (PySem.W.fnOf x qual (defArgs st) (defBody st) (defScope st) .none kV doc pm an cdv ct) ⟨us, []⟩ = pure (ps.zip us)) : Binds K fd ps [] := by
  obtain ⟨oc, od, kV, doc, pm, an, cdv, ct, osl, rfl, lk, hcd⟩ := F.ex
  exact .all (h kV doc pm an cdv ct)
theorem fun_mk {x qual : Str} {st : Stmt} {f : Addr} {oc : Value} {od an : Option Addr} {osl : Array (Option Value)} {kV doc pm cdv ct : Value} (l : K.lookup f = some ⟨oc, od, .func (PySem.W.fnOf x qual (defArgs st) (defBody st) (defScope st) .none kV doc pm an cdv ct), osl⟩)
    (c : PySem.W.codeIn K cdv qual = true) (k : PySem.W.keepIn K (.ref f) = true) : Fun K x qual st f (PySem.W.fnOf x qual (defArgs st) (defBody st) (defScope st) .none kV doc pm an cdv ct) := ⟨⟨oc, od, kV, doc, pm, an, cdv, ct, osl, rfl, l, c⟩, k⟩
end
theorem small1000 {n : Nat} (h : n ≤ 1000) : n < sizeLine := Nat.lt_of_le_of_lt h (by decide)
section
variable {X : Cx}
theorem pv (i : Nat) {x : Str} {pos : Pos} (hN : X.N[i]? = some x := by rfl) (hv : Vis X.env.scope x := by first | exact Or.inl rfl | exact Or.inr (Or.inl rfl) | exact Or.inr (Or.inr rfl)) (hd : (x == ("__debug__" : Str)) = false := by decide)
    (hcd : (x == ("__classdict__" : Str)) = false := by decide) : PE X (.Name x pos) (tVar i) := pe_var hN hv hd hcd
end
theorem iteF {A B : Prop} (h : B) : if false = true then A else B := by
  rw [if_neg Bool.false_ne_true]
  exact h
theorem iteT {A B : Prop} (h : A) : if true = true then A else B := by
  rw [if_pos rfl]
  exact h
theorem ite2 {c A B : Prop} [Decidable c] (h1 : c → A) (h2 : ¬ c → B) : if c then A else B := by
  by_cases h : c
  · rw [if_pos h]
    exact h1 h
  · rw [if_neg h]
    exact h2 h
def Same (H H' : Hp) : Prop := ∀ b o, H b = some o → H' b = some o
theorem Same.refl (H : Hp) : Same H H := fun _ _ h => h
theorem Same.trans {H H1 H2 : Hp} (a : Same H H1) (b : Same H1 H2) : Same H H2 := fun c o h => b c o (a c o h)
theorem Same.free {H H' : Hp} (e : Same H H') {l : Addr} (h : H' l = Option.none) : H l = Option.none := by
  cases q : H l with
  | none => rfl
  | some o =>
    rw [e l o q] at h
    cases h
theorem Same.seq {K : PySem.W.Frag} {H H' : Hp} {a : Addr} {xs : List V} (e : Same H H') (h : SqL K H a xs) : SqL K H' a xs := by
  rcases h with (h | ⟨o, h⟩) | h
  · exact .inl (.inl (e _ _ h))
  · exact .inl (.inr ⟨o, e _ _ h⟩)
  · exact .inr h
end L2
namespace L2
open PySem PySem.Spec PyProof.Rows
section
variable {X : Cx}
def CDivW (_ j : Int) : Prop := j ≠ 0 ∧ j.natAbs.log2 < 9000
theorem op_fdivW : OpR X (binaryOp .FloorDiv) (rI CDivW fun i j => .int (i.fdiv j)) := opI fun _ _ _ _ _ _ _ hc q => floordiv_int hc.1 q (.inl (PyProof.noPylong_of_log2 hc.2))
theorem bits_le {i : Int} {k : Nat} (h : i.natAbs < 2 ^ k) : Builtin.Int.intBits i ≤ k := by
  unfold Builtin.Int.intBits
  split
  · exact Nat.zero_le _
  · rename_i z
    have z' : i.natAbs ≠ 0 := fun e => z (beq_iff_eq.mpr (Int.natAbs_eq_zero.mp e))
    exact (Nat.log2_lt z').mpr h
def CMulW (i j : Int) : Prop := i.natAbs < 2 ^ 10000 ∧ j.natAbs < 2 ^ 10000
theorem CMulW.ok {i j : Int} (h : CMulW i j) : IntMulOk i j := .of_bits (Nat.le_trans (bits_le h.1) (by decide)) (Nat.le_trans (bits_le h.2) (by decide))
theorem op_mulW : OpR X (binaryOp .Mult) (rI CMulW fun i j => .int (i * j)) := opI fun _ _ _ _ _ _ _ hc q => mul_int q hc.ok
end
mutual
inductive DV (K : PySem.W.Frag) (H : Hp) : V → PyData → Prop
  | non : DV K H .non .none
  | bl (b : Bool) : DV K H (.bl b) (.bool b)
  | int (i : Int) : DV K H (.int i) (.int i)
  | str (x : Str) : DV K H (.str x) (.str x)
  | lst {a : Addr} {xs : List V} {ds : List PyData} : SqL K H a xs → DVs K H xs ds → DV K H (.ref a) (.list ds)
  | tup {a : Addr} {xs : List V} {ds : List PyData} : SqT K H a xs → DVs K H xs ds → DV K H (.ref a) (.tuple ds)
  | dct {a : Addr} {kvs : List (Key × V)} : H a = some (.dK kvs) → DV K H (.ref a) (.dict [])
inductive DVs (K : PySem.W.Frag) (H : Hp) : List V → List PyData → Prop
  | nil : DVs K H [] []
  | cons {v : V} {vs : List V} {d : PyData} {ds : List PyData} : DV K H v d → DVs K H vs ds → DVs K H (v :: vs) (d :: ds)
end
section
variable {X : Cx} {pins : List (Addr × Obj)} {σ : St} {H : Hp} {s : Shared}
mutual
theorem DV.reads (I : Inv X pins σ H s) : ∀ {v : V} {d : PyData}, DV X.K H v d → d.canLay0 = true → ∀ {u : Value}, RelV v u → ∃ as, Reads s.heap u d as
  | _, _, .non, _, _, r => by cases r; exact ⟨_, .none⟩
  | _, _, .bl b, _, _, r => by cases r; exact ⟨_, .bool b⟩
  | _, _, .int i, _, _, r => by obtain ⟨t, rfl⟩ := r; exact ⟨_, .int i t⟩
  | _, _, .str x, _, _, r => by obtain ⟨t, rfl⟩ := r; exact ⟨_, .str x t⟩
  | _, _, .lst h q, c, _, r => by
    cases r
    obtain ⟨its, rv, pl, _⟩ := I.list h
    obtain ⟨as, ra⟩ := DVs.reads I q c rv
    obtain ⟨o, ho, hc, n, hd⟩ := id pl.isList
    exact ⟨_, .list ho hc hd ra⟩
  | _, _, .tup h q, c, _, r => by
    cases r
    obtain ⟨its, rv, pl, _⟩ := I.tuple h
    obtain ⟨as, ra⟩ := DVs.reads I q c rv
    obtain ⟨o, ho, hc, n, hd⟩ := id pl
    exact ⟨_, .tuple ho hc hd ra⟩
  | _, _, .dct h, c, _, r => nomatch c
theorem DVs.reads (I : Inv X pins σ H s) : ∀ {vs : List V} {ds : List PyData}, DVs X.K H vs ds → PyData.canLayAll0 ds = true → ∀ {us : List Value}, Vals vs us → ∃ as, ReadsAll s.heap us ds as
  | _, _, .nil, _, _, r => by cases r; exact ⟨_, .nil⟩
  | _, _, .cons h q, c, _, r => by
    rw [PyData.canLayAll0] at c
    cases r with
    | cons r1 r2 =>
      obtain ⟨a1, z1⟩ := DV.reads I h (Bool.and_eq_true_iff.mp c).1 r1
      obtain ⟨a2, z2⟩ := DVs.reads I q (Bool.and_eq_true_iff.mp c).2 r2
      exact ⟨_, .cons z1 z2⟩
end
end
section
variable {X : Cx}
def rEqD (K : PySem.W.Frag) : R2 := fun x y H Q => ∃ d e, DV K H x d ∧ DV K H y e ∧ SeqAt.shaped d = true ∧ SeqAt.shaped e = true ∧ Q (.bl (PyData.eqv d e)) H
def rNeD (K : PySem.W.Frag) : R2 := fun x y H Q => ∃ d e, DV K H x d ∧ DV K H y e ∧ SeqAt.shaped d = true ∧ SeqAt.shaped e = true ∧ Q (.bl (!PyData.eqv d e)) H
theorem op_eqD (hu : X.A.units + 64 < cLine) : OpR X (compareOp .Eq) (rEqD X.K) := by
  intro pins s σ H x y v u Q I rx ry h
  obtain ⟨d, e, hd, he, sd, se, q⟩ := h
  obtain ⟨a1, r1⟩ := hd.reads I (SeqAt.canLay_of_shaped sd) rx
  obtain ⟨a2, r2⟩ := he.reads I (SeqAt.canLay_of_shaped se) ry
  exact eq_dataH r1 r2 sd se hu ⟨.bl _, H, I, rfl, q⟩
theorem op_neD (hu : X.A.units + 64 < cLine) : OpR X (compareOp .NotEq) (rNeD X.K) := by
  intro pins s σ H x y v u Q I rx ry h
  obtain ⟨d, e, hd, he, sd, se, q⟩ := h
  obtain ⟨a1, r1⟩ := hd.reads I (SeqAt.canLay_of_shaped sd) rx
  obtain ⟨a2, r2⟩ := he.reads I (SeqAt.canLay_of_shaped se) ry
  exact ne_dataH r1 r2 sd se hu ⟨.bl _, H, I, rfl, q⟩
end
section
variable {X : Cx} {pos : Pos}
theorem Inv.big2 {pins : List (Addr × Obj)} {σ : St} {H : Hp} {s : Shared} (I : Inv X pins σ H s) : sysModules < s.heap.objs.size := by
  have h : mainGlobals < s.heap.objs.size := (I.mod.glob.keeps I.bk).lt
  exact Nat.lt_trans (by decide) h
end
structure TopFn (K : PySem.W.Frag) (mg : Str → Option Value) (x : Str) (st : Stmt) : Prop where
  ex : ∃ (f : Addr) (fd : FuncData), Fun K x x st f fd ∧ mg x = some (.ref f)
theorem same_new {H : Hp} {p : Addr} (h : H p = none) (o : HO) : Same H (upd H p o) := fun b u q => by rw [upd_ne (ne_of_none q h)]; exact q
end L2
namespace L2
open PySem PySem.Spec PyProof.Rows
theorem bt_int : bootBuiltins "int" = some (.type "int") := by decide +kernel
theorem bt_bool : bootBuiltins "bool" = some (.type "bool") := by decide +kernel
theorem bt_tuple : bootBuiltins "tuple" = some (.type "tuple") := by decide +kernel
theorem bt_list : bootBuiltins "list" = some (.type "list") := by decide +kernel
theorem bt_str : bootBuiltins "str" = some (.type "str") := by decide +kernel
theorem bt_len : bootBuiltins "len" = some (.builtin "len") := by decide +kernel
theorem bt_abs : bootBuiltins "abs" = some (.builtin "abs") := by decide +kernel
theorem bt_all : bootBuiltins "all" = some (.builtin "all") := by decide +kernel
theorem bt_isinstance : bootBuiltins "isinstance" = some (.builtin "isinstance") := by decide +kernel
def bsub (t T : String) : Option Bool := if (Value.type t == Value.type T) = true then some true else if PySem.W.kitMeta T = true then (fastBuiltinMro t).map (·.contains (Value.type T)) else none
theorem kit_b {K : PySem.W.Frag} {t T : String} {b : Bool} (h : bsub t T = some b) : PySem.W.kitOne K (.type t) (.type T) = some b := h
theorem topFn_mk {K : PySem.W.Frag} {h : Heap} {mg : Str → Option Value} {x : Str} {st : Stmt} {f : Addr} {oc : Value} {od an : Option Addr} {sl : Array (Option Value)} {kV dc pm cd ct : Value} (X : K.In h) (G : h.Ns mainGlobals mg)
    (a : PySem.W.nsIn K mainGlobals x = some (some (.ref f))) (l : K.lookup f = some ⟨oc, od, .func (PySem.W.fnOf x x (defArgs st) (defBody st) (defScope st) .none kV dc pm an cd ct), sl⟩) (c : PySem.W.codeIn K cd x = true) (k : PySem.W.keepIn K (.ref f) = true) : TopFn K mg x st :=
  ⟨f, _, fun_mk l c k, PySem.W.mg_of X G a⟩
section
variable {X : Cx} {es : List Expr} {te : TE} {t : TA}
theorem pa_const {c : Const} {j : Nat} {p : Pos} (ha : PE X (.Constant c j p) te) (hr : PA X es t) : PA X (.Constant c j p :: es) (tCons te t) := pa_cons ha hr (by rfl)
theorem pa_name {x : Str} {p : Pos} (ha : PE X (.Name x p) te) (hr : PA X es t) : PA X (.Name x p :: es) (tCons te t) := pa_cons ha hr (by rfl)
theorem pa_list {xs : List Expr} {p : Pos} (ha : PE X (.List xs p) te) (hr : PA X es t) : PA X (.List xs p :: es) (tCons te t) := pa_cons ha hr (by rfl)
theorem pa_tuple {xs : List Expr} {k : Nat} {p : Pos} (ha : PE X (.Tuple xs k p) te) (hr : PA X es t) : PA X (.Tuple xs k p :: es) (tCons te t) := pa_cons ha hr (by rfl)
theorem pa_dict {ks : List (Option Expr)} {vs : List Expr} {p : Pos} (ha : PE X (.Dict ks vs p) te) (hr : PA X es t) : PA X (.Dict ks vs p :: es) (tCons te t) := pa_cons ha hr (by rfl)
theorem pa_call {f : Expr} {as : List Expr} {kw : List Keyword} {p : Pos} (ha : PE X (.Call f as kw p) te) (hr : PA X es t) : PA X (.Call f as kw p :: es) (tCons te t) := pa_cons ha hr (by rfl)
theorem pa_bin {a : Expr} {o : Operator} {b : Expr} {p : Pos} (ha : PE X (.BinOp a o b p) te) (hr : PA X es t) : PA X (.BinOp a o b p :: es) (tCons te t) := pa_cons ha hr (by rfl)
theorem pa_cmp {a : Expr} {os : List CmpOp} {bs : List Expr} {p : Pos} (ha : PE X (.Compare a os bs p) te) (hr : PA X es t) : PA X (.Compare a os bs p :: es) (tCons te t) := pa_cons ha hr (by rfl)
theorem pa_sub {a b : Expr} {p : Pos} (ha : PE X (.Subscript a b p) te) (hr : PA X es t) : PA X (.Subscript a b p :: es) (tCons te t) := pa_cons ha hr (by rfl)
end
end L2
namespace L2
open PySem PySem.Spec PyProof.Rows
def Trc (base : Heap) (e : Addr) (c : Value) (d : Option Addr) (fl : Value) (h : Heap) : Prop :=
  ∃ (o oT : Obj) (vs ts : Array Value) (T : Addr), h.get? e = some o ∧ o.cls = c ∧ o.dict = d ∧ o.data = .fields vs ∧ vs[1]? = some (.ref T) ∧ base.get? T = none ∧ T ≠ e ∧ h.get? T = some oT ∧ oT.data = .fields ts ∧ ts[3]? = some fl
def FlyD (base : Heap) (l : List Env) (e : Addr) (c : Value) (d : Option Addr) (fl : Value) (h : Heap) : Prop :=
  base.StaysIn h ∧ base.get? e = none ∧ h.FunFrames base l ∧ Trc base e c d fl h
end L2
namespace L2
open PySem PySem.Spec PyProof.Rows
def CX1 (P : Program) (w : World) : CXT := fun outer H s E e s' => ∃ (a C : Addr) (d : Option Addr) (H' : Hp) (B : Heap), e = .ref a ∧ s'.os = s.os ∧ AllBare s'.gens ∧
  (∀ h'' : Heap, B.StaysIn h'' → s'.heap.UpToSlots h'' → Un (frs outer) [] H H' s.heap h'' ∧ HOk P w H' h'') ∧ FlyD B outer a (.ref C) d .none s'.heap ∧ H' a = none ∧ s.heap.get? a = none ∧ E (.ref C) d H'
end L2
namespace L2
open PySem PySem.Spec PyProof.Rows
structure RoomB (c : Bool) (k : Nat) (A : Around) : Prop where
  hd : c = true → A.handled = none
  dp : A.depth + 3 * k + 5 < recursionLimit
  un : A.units + 16 * k + 200 < cLine
theorem RoomB.mono {c : Bool} {j k : Nat} {A : Around} (r : RoomB c k A) (h : j ≤ k) : RoomB c j A := ⟨r.hd, by have := r.dp; omega, by have := r.un; omega⟩
theorem RoomB.deeper {c : Bool} {k : Nat} {A : Around} (r : RoomB c (k + 1) A) (env : Env) : RoomB c k (A.deeper env) :=
  ⟨r.hd, by have := r.dp; show A.depth + 1 + 3 * k + 5 < _; omega, by have := r.un; show A.units + 3 + 16 * k + 200 < _; omega⟩
theorem RoomB.depth {c : Bool} {k : Nat} {A : Around} (r : RoomB c k A) : A.depth < recursionLimit := by have := r.dp; omega
theorem RoomB.units {c : Bool} {k : Nat} {A : Around} (r : RoomB c k A) : A.units + 64 < cLine := by have := r.un; omega
theorem Room.b {k : Nat} {A : Around} (r : Room k A) : RoomB true k A := ⟨fun _ => r.hd, r.dp, r.un⟩
structure FnB (P : Program) (w : World) (K : PySem.W.Frag) (mg : Str → Option Value) (base : Heap) (c : Bool) (k : Nat) (f : Addr) (fd : FuncData) (ps : List Str) (sp : Sp) : Prop where
  len : ∀ vs H Q E, sp vs H Q E → vs.length = ps.length
  run : ∀ (A : Around) (outer : List Env) (s : Shared) (H : Hp) (args : Args) (us : List Value) (vs : List V) (Q : VK) (E : XK), RoomB c k A → Env0 P w K mg base A outer s H → BindsTo s fd args (ps.zip us) → Vals vs us → sp vs H Q E →
    codeAny (model P w) A (.call (.ref f) args) (CR (CX1 P w) outer P w H s Q E) s
theorem FnB.ok {P : Program} {w : World} {K : PySem.W.Frag} {mg : Str → Option Value} {base : Heap} {k : Nat} {f : Addr} {fd : FuncData} {ps : List Str} {sp : Sp} (F : FnB P w K mg base true k f fd ps sp) : FnOk P w K mg base (CX1 P w) k f fd ps sp :=
  ⟨F.len, fun A outer s H args us vs Q E hr => F.run A outer s H args us vs Q E hr.b⟩
def cxB (c : Bool) (P : Program) (w : World) (K : PySem.W.Frag) (mg : Str → Option Value) (base : Heap) (N : List Str) (qual : Str) (scope : Scope) (f : Addr) (cd : Value) (A : Around) (outer : List Env) (s : Shared) (H : Hp) (E : XK) : Cx :=
  { cxOf (CX1 P w) P w K mg base N qual scope f cd A outer s H E with calm := c }
theorem inv_startB {c : Bool} {P : Program} {w : World} {K : PySem.W.Frag} {mg : Str → Option Value} {base : Heap} {N ps : List Str} {qual : Str} {scope : Scope} {f : Addr} {cd : Value} {A : Around} {outer : List Env} {s s1 : Shared} {H : Hp} {E : XK} {us : List Value} {vs : List V}
    (S : FnScope N ps scope) (hd : c = true → A.handled = none) (e0 : Env0 P w K mg base A outer s H) (hl : vs.length = ps.length) (r : Vals vs us)
    (x : InCallC s s.heap.objs.size (bindL (envOfC qual scope s.heap.objs.size f cd).kindOf (ps.zip us) fun _ => none) (cellsFrom (s.heap.objs.size + 1) scope.names []) (bindC (envOfC qual scope s.heap.objs.size f cd).kindOf (ps.zip us) fun _ => none) s1) :
    Inv (cxB c P w K mg base N qual scope f cd A outer s H E) [] (start N vs) H s1 := by
  have hpl : ps.length ≤ N.length := by have := congrArg List.length S.pre; rw [List.length_take] at this; omega
  obtain ⟨h1, tk, rfl, hk⟩ := x.done
  have noA : ∀ b : Addr, b ∉ (cxB c P w K mg base N qual scope f cd A outer s H E).ex := fun b z => absurd (show b ∈ ([] : List Addr) from z) (by simp)
  refine ⟨⟨e0.mod, S.kind, rfl, rfl, Nat.le_refl _, fun y z c h1 h2 => ?_, fun y hy => ?_, fun y c _ h => ?_, fun z => hd z, Around.frames_deeper e0.frames, .inr ⟨rfl, rfl⟩, fun b z => absurd z (noA b), e0.bs, e0.bsz, fun b _ _ => noA b, fun b z => absurd z (noA b), e0.funs, e0.frf⟩,
    rfl, e0.bare, Un.kept hk, ⟨_, x.toInCall.ns, fun i y v h1 h2 h3 => ?_⟩, fun y c h => ⟨_, x.cell y c h⟩, e0.hok.fresh (Nat.le_refl _), fun y c h => ?_, fun p hp => absurd (show p ∈ ([] : List (Addr × Obj)) from hp) (by simp), e0.hok.kept hk, ?_⟩
  · exact name_of_addr x.apart (PySem.mem_of_lookup h1) (PySem.mem_of_lookup h2)
  · have hy : scope.names.lookup y = some .cell ∨ scope.names.lookup y = some .free := hy
    rcases hy with hy | hy
    · exact cell_has hy
    · exact absurd rfl (S.nofree _ (PySem.mem_of_lookup hy))
  · exact Nat.le_of_lt (x.above y c (PySem.mem_of_lookup h))
  · have hi : i < vs.length := by
      unfold start at h2
      by_cases hi : i < vs.length
      · exact hi
      · rw [List.getElem?_append_right (by simpa using hi)] at h2
        rw [List.getElem?_replicate] at h2
        split at h2 <;> cases h2
    have ha : vs[i]? = some v := by
      unfold start at h2
      rw [List.getElem?_append_left (by simpa using hi), List.getElem?_map] at h2
      cases e : vs[i]? with
      | none => rw [e] at h2; cases h2
      | some a => rw [e] at h2; cases h2; rfl
    obtain ⟨u, hu, rv⟩ := r.get ha
    have hp : ps[i]? = some y := by
      rw [← S.pre, List.getElem?_take_of_lt (by omega)]; exact h1
    have ndP : ps.Nodup := by rw [← S.pre]; exact S.nd.sublist (List.take_sublist _ _)
    refine ⟨u, rv, ?_⟩
    rcases S.par y (List.mem_of_getElem? hp) with k | k
    · exact .inl ⟨k, bindL_get ndP hp hu k⟩
    · obtain ⟨c, e⟩ := cell_has (n := s.heap.objs.size + 1) k
      refine .inr ⟨.inl k, c, e, ?_⟩
      have q := x.cell y c e
      rw [bindC_get ndP hp hu (by show scope.names.lookup y ≠ _; rw [k]; decide)] at q
      exact q
  · exact e0.hok.fresh (Nat.le_of_lt (x.above y c (PySem.mem_of_lookup h)))
  · unfold start
    show _ = N.length
    rw [List.length_append, List.length_map, List.length_replicate]
    omega
theorem fnB_of {c : Bool} {P : Program} {w : World} {K : PySem.W.Frag} {mg : Str → Option Value} {base : Heap} {k : Nat} {f : Addr} {name qual : Str} {params : Arguments} {body : List Stmt} {scope : Scope} {dV kV doc pm cdv ct oc : Value} {an od : Option Addr}
    {osl : Array (Option Value)} {N ps : List Str} {sp : Sp} (lk : K.lookup f = some ⟨oc, od, .func (PySem.W.fnOf name qual params body scope dV kV doc pm an cdv ct), osl⟩) (hcd : PySem.W.codeIn K cdv qual = true) (S : FnScope N ps scope)
    (len : ∀ vs H Q E, sp vs H Q E → vs.length = ps.length)
    (hbody : ∀ (A : Around) (outer : List Env) (s : Shared) (H : Hp) (vs : List V) (Q : VK) (E : XK), RoomB c k (A.deeper (envOfC qual scope s.heap.objs.size f cdv)) → sp vs H Q E →
      ∃ t, PSs (cxB c P w K mg base N qual scope f cdv A outer s H E) body t ∧ t { nx := fun _ H' => Q .non H', rt := Q } (start N vs) H) :
    FnB P w K mg base c (k + 1) f (PySem.W.fnOf name qual params body scope dV kV doc pm an cdv ct) ps sp := by
  refine ⟨len, fun A outer s H args us vs Q E hr e0 hb r hsp => ?_⟩
  have hl := len _ _ _ _ hsp
  have KX : K.In s.heap := e0.mod.kin.keeps fun b o e => (e0.bs b o e).1
  have lim : s.heap.NoLimit := e0.mod.nolimit.keeps fun b o e => (e0.bs b o e).1
  have hkind : ∀ y ∈ ps.zip us, scope.names.lookup y.1 = some .local ∨ (scope.names.lookup y.1 = some .cell ∧ ((cellsFrom (s.heap.objs.size + 1) scope.names []).lookup y.1).isSome = true) := fun ⟨n, v⟩ hy => by
    rcases S.par n (List.of_mem_zip hy).1 with q | q
    · exact .inl q
    · exact .inr ⟨q, PySem.W.cellsFrom_some _ _ _ (.inl q)⟩
  refine codeAny_call_function hr.depth (KX _ _ lk) rfl S.co S.gen rfl (PySem.W.codeRec_of KX hcd) (hb _ _ _ _ ?_)
  refine wpAny_newFunctionEnv_cells S.kind hkind fun env he s1 x => ?_
  subst he
  refine ⟨lim.keeps x.toInCall.keep, codeAny_func ?_⟩
  obtain ⟨t, ht, hq⟩ := hbody A outer s H vs Q E (hr.deeper _) hsp
  have I : Inv (cxB c P w K mg base N qual scope f cdv A outer s H E) [] (start N vs) H s1 := inv_startB S hr.hd e0 hl r x
  refine wpAny_mono (ht [] s1 (start N vs) H _ I hq) (fun fl s' hs => ?_) fun e s' hs => hs
  have fin : ∀ {σ' : St} {H' : Hp} {v : V} {u : Value}, Inv (cxB c P w K mg base N qual scope f cdv A outer s H E) [] σ' H' s' → RelV v u → Q v H' → CE outer P w H s Q u s' :=
    fun {σ' H' v u} J rv q => ⟨v, H', J.os, J.bare, J.base, J.hok, rv, q⟩
  cases fl with
  | ret u =>
    obtain ⟨v, σ', H', J, rv, q⟩ := hs
    exact fin J rv q
  | next =>
    obtain ⟨σ', H', J, q⟩ := hs
    exact fin (v := V.non) (u := Value.none) J rfl q
  | brk =>
    obtain ⟨_, _, _, q⟩ := hs
    exact False.elim q
  | cont =>
    obtain ⟨_, _, _, q⟩ := hs
    exact False.elim q
structure CalB (P : Program) (w : World) (K : PySem.W.Frag) (mg : Str → Option Value) (base : Heap) (c : Bool) (k : Nat) (x : Str) (ps : List Str) (sp : Sp) : Prop where
  ex : ∃ (f : Addr) (fd : FuncData), FnB P w K mg base c k f fd ps sp ∧ mg x = some (.ref f) ∧ PySem.W.keepIn K (.ref f) = true ∧ Binds K fd ps []
theorem TopFn.calB {c : Bool} {P : Program} {w : World} {K : PySem.W.Frag} {mg : Str → Option Value} {base : Heap} {x : Str} {st : Stmt} {N ps : List Str} {k : Nat} {sp : Sp} (T : TopFn K mg x st) (S : FnScope N ps (defScope st))
    (hb : ∀ (kV doc pm : Value) (an : Option Addr) (cdv ct : Value) (us : List Value), us.length = ps.length → bindArgs (PySem.W.fnOf x x (defArgs st) (defBody st) (defScope st) .none kV doc pm an cdv ct) ⟨us, []⟩ = pure (ps.zip us))
    (len : ∀ vs H Q E, sp vs H Q E → vs.length = ps.length)
    (hbody : ∀ (f : Addr) (cdv : Value) (A : Around) (outer : List Env) (s : Shared) (H : Hp) (vs : List V) (Q : VK) (E : XK), RoomB c k (A.deeper (envOfC x (defScope st) s.heap.objs.size f cdv)) → sp vs H Q E →
      ∃ t, PSs (cxB c P w K mg base N x (defScope st) f cdv A outer s H E) (defBody st) t ∧ t { nx := fun _ H' => Q .non H', rt := Q } (start N vs) H) : CalB P w K mg base c (k + 1) x ps sp := by
  obtain ⟨f, fd, F, hm⟩ := T.ex
  obtain ⟨oc, od, kV, doc, pm, an, cdv, ct, osl, rfl, l, cd⟩ := id F.ex
  exact ⟨f, _, fnB_of l cd S len (hbody f cdv), hm, F.kp, F.binds hb⟩
theorem pass01 {P : Program} {w : World} {X : Cx} : Passes (CX1 P w) X E0 := fun _ _ _ _ _ _ _ h => by
  obtain ⟨_, _, _, _, _, _, _, _, _, _, _, _, q⟩ := h
  exact q.elim
section
variable {X : Cx} {c : Bool} {k : Nat} {ps : List Str} {sp : Sp} {x : Str} {p pos : Pos} {e : Expr} {es : List Expr} {t : TA} {E : XK}
theorem run_fnB {pins : List (Addr × Obj)} {σ : St} {H : Hp} {s : Shared} {Q : VK} {us : List Value} {vs : List V} {f : Addr} {fd : FuncData} {E' : Value → Shared → Prop} (F : FnB X.prog X.w X.K X.mg X.base c k f fd ps sp) (hr : RoomB c k X.A) (hb : Binds X.K fd ps [])
    (I : Inv X pins σ H s) (r : Vals vs us) (h : sp (vs ++ []) H Q E) (hx : ∀ e s', CX1 X.prog X.w X.stack H s E e s' → E' e s') : wpAny (model X.prog X.w) X.A (call (.ref f) us) (EP X pins σ Q) E' s := by
  have r2 : Vals (vs ++ []) (us ++ []) := r.append .nil
  have hl : (us ++ []).length = ps.length := by rw [← r2.length]; exact F.len _ _ _ _ h
  refine wpAny_call (codeAny_mono (F.run X.A X.stack s H ⟨us, []⟩ (us ++ []) (vs ++ []) Q E hr I.env0 (hb s us I.kIn hl) r2 h) fun r s' hq => ?_)
  cases r with
  | error e => exact hx e s' hq
  | ok fl =>
    cases fl with
    | ret u => exact I.after hq
    | next => exact False.elim hq
    | brk => exact False.elim hq
    | cont => exact False.elim hq
theorem pe_cB (C : CalB X.prog X.w X.K X.mg X.base c k x ps sp) (hr : RoomB c k X.A) (hx : Passes (CX1 X.prog X.w) X E) (ha : PA X (e :: es) t) (hg : Gl X x := by rfl) (hdb : (x == ("__debug__" : Str)) = false := by decide)
    (he : starEach (e :: es) X.env = (false, eval e X.env) :: starEach es X.env := by rfl) (hpl : (backTo pos (starEach es X.env)).any (·.1) = false := by rfl) :
    PE X (.Call (.Name x p) (e :: es) [] pos) (tCall sp [] E t) := by
  obtain ⟨f, fd, F, hm, hk, hb⟩ := C.ex
  intro pins s σ H Q I h
  refine wpAny_Call_Name_kw (ld_glob I hg hm ?_ hdb)
  refine PySem.W.callWith_K (h₀ := X.base) I.ok.mod.kin hk (thn (ha pos pins s σ H _ I h) fun us s1 ⟨vs, H1, I1, r, q⟩ => ⟨I1.kIn, ?_⟩) he hpl
  exact run_fnB F hr hb I1 r q fun e s' h => hx pins σ H1 s1 e s' I1 h
end
end L2
namespace L2
open PySem PySem.Spec PyProof.Rows
end L2
namespace L2
open PySem PySem.Spec PySem.Calls PyProof.Rows PySem.W Builtin Builtin.ObjectAttr Builtin.Getset_descriptor
end L2
namespace Fr
theorem absE (i : Int) : (if i < 0 then -i else i) = (i.natAbs : Int) := by omega
theorem gcd_turn (m n : Nat) : Nat.gcd n (m % n) = Nat.gcd m n := by
  rw [Nat.gcd_comm n (m % n), ← Nat.gcd_rec n m, Nat.gcd_comm]
def gcd (a b : Int) : Int := ((Nat.gcd a.natAbs b.natAbs : Nat) : Int)
theorem gcd_nn (a b : Int) : 0 ≤ gcd a b := Int.natCast_nonneg _
theorem gcd_pos {a b : Int} (h : b ≠ 0) : 0 < gcd a b := by
  unfold gcd
  have : 0 < Nat.gcd a.natAbs b.natAbs := Nat.gcd_pos_of_pos_right _ (by omega)
  omega
theorem gcd_le {a b : Int} (h : b ≠ 0) : gcd a b ≤ (b.natAbs : Int) := by
  unfold gcd
  have : Nat.gcd a.natAbs b.natAbs ≤ b.natAbs := Nat.gcd_le_right _ (by omega)
  omega
theorem gcd_dvd_l (a b : Int) : gcd a b ∣ a := by
  unfold gcd
  exact Int.ofNat_dvd_left.mpr (Nat.gcd_dvd_left _ _)
theorem gcd_dvd_r (a b : Int) : gcd a b ∣ b := by
  unfold gcd
  exact Int.ofNat_dvd_left.mpr (Nat.gcd_dvd_right _ _)
def sg (t b : Int) : Int := if b < 0 then 0 - gcd t b else gcd t b
def lt (t b : Int) : Int := t.fdiv (sg t b)
def lb (t b : Int) : Int := b.fdiv (sg t b)
theorem sg_ne {t b : Int} (h : b ≠ 0) : sg t b ≠ 0 := by
  unfold sg
  have := gcd_pos (a := t) h
  split <;> omega
theorem sg_abs {t b : Int} : (sg t b).natAbs = (gcd t b).natAbs := by
  unfold sg
  split <;> omega
theorem sg_dvd_t (t b : Int) : sg t b ∣ t := by
  unfold sg
  split
  · rw [Int.zero_sub]; exact Int.neg_dvd.mpr (gcd_dvd_l t b)
  · exact gcd_dvd_l t b
theorem sg_dvd_b (t b : Int) : sg t b ∣ b := by
  unfold sg
  split
  · rw [Int.zero_sub]; exact Int.neg_dvd.mpr (gcd_dvd_r t b)
  · exact gcd_dvd_r t b
theorem fdiv_mul {a g : Int} (h : g ∣ a) : a.fdiv g * g = a := by
  rw [Int.fdiv_eq_ediv_of_dvd h]
  exact Int.ediv_mul_cancel h
theorem lt_mul (t b : Int) : lt t b * sg t b = t := fdiv_mul (sg_dvd_t t b)
theorem lb_mul (t b : Int) : lb t b * sg t b = b := fdiv_mul (sg_dvd_b t b)
theorem lb_pos {t b : Int} (h : b ≠ 0) : 0 < lb t b := by
  have e := lb_mul t b
  have g := gcd_pos (a := t) h
  have hs : sg t b = if b < 0 then 0 - gcd t b else gcd t b := rfl
  rcases Int.lt_trichotomy (lb t b) 0 with z | z | z
  · exfalso
    by_cases hb : b < 0
    · rw [if_pos hb] at hs
      have : 0 < lb t b * sg t b := by
        rw [hs]
        exact Int.mul_pos_of_neg_of_neg z (by omega)
      omega
    · rw [if_neg hb] at hs
      have : lb t b * sg t b < 0 := by
        rw [hs]
        exact Int.mul_neg_of_neg_of_pos z g
      omega
  · rw [z] at e; omega
  · exact z
theorem low_same {t b : Int} (h : 0 < b) : (lt t b = t ∧ lb t b = b) ↔ gcd t b = 1 := by
  have hs : sg t b = gcd t b := if_neg (by omega)
  have g := gcd_pos (a := t) (b := b) (by omega)
  have e := lb_mul t b
  constructor
  · rintro ⟨-, h2⟩
    rw [h2, hs] at e
    have : b * gcd t b = b * 1 := by omega
    exact Int.eq_of_mul_eq_mul_left (by omega) this
  · intro h1
    unfold lt lb
    rw [hs, h1, Int.fdiv_one, Int.fdiv_one]
    exact ⟨rfl, rfl⟩
theorem log2_small {n k : Nat} (h : n < 2 ^ k) (hk : 0 < k) : n.log2 < k := by
  by_cases z : n = 0
  · subst z; simpa using hk
  · exact (Nat.log2_lt z).mpr h
theorem lb_abs {t b : Int} (h : b ≠ 0) : (lb t b).natAbs ≤ b.natAbs := by
  have e := lb_mul t b
  have g := sg_ne (t := t) h
  have h1 : (lb t b).natAbs * (sg t b).natAbs = b.natAbs := by rw [← Int.natAbs_mul, e]
  have h2 : 1 ≤ (sg t b).natAbs := by omega
  calc (lb t b).natAbs = (lb t b).natAbs * 1 := (Nat.mul_one _).symm
    _ ≤ (lb t b).natAbs * (sg t b).natAbs := Nat.mul_le_mul_left _ h2
    _ = b.natAbs := h1
end Fr
namespace Fr
theorem gcd_comm' (t b : Int) : ((b.gcd t : Nat) : Int) = gcd t b := by
  unfold gcd Int.gcd
  rw [Nat.gcd_comm]
theorem lt_num {t b : Int} (h : b ≠ 0) : lt t b = (Rat.divInt t b).num := by
  have g0 := gcd_pos (a := t) h
  rw [Rat.num_divInt, gcd_comm']
  have e := lt_mul t b
  have d : gcd t b ∣ b.sign * t := Int.dvd_mul_of_dvd_right (gcd_dvd_l t b)
  refine (Int.ediv_eq_of_eq_mul_left (by omega) ?_).symm
  have hs : sg t b = b.sign * gcd t b := by
    unfold sg
    rcases Int.lt_trichotomy b 0 with z | z | z
    · rw [if_pos z, Int.sign_eq_neg_one_of_neg z]; omega
    · exact absurd z h
    · rw [if_neg (by omega), Int.sign_eq_one_of_pos z]; omega
  have h2 : b.sign * b.sign = 1 := by
    rcases Int.lt_trichotomy b 0 with z | z | z
    · rw [Int.sign_eq_neg_one_of_neg z]; rfl
    · exact absurd z h
    · rw [Int.sign_eq_one_of_pos z]; rfl
  calc b.sign * t = b.sign * (lt t b * sg t b) := by rw [e]
    _ = (b.sign * b.sign) * (lt t b * gcd t b) := by rw [hs]; grind
    _ = lt t b * gcd t b := by rw [h2]; omega
theorem lb_den {t b : Int} (h : b ≠ 0) : lb t b = ((Rat.divInt t b).den : Int) := by
  have e1 := lt_mul t b
  have e2 := lb_mul t b
  have s0 := sg_ne (t := t) h
  have n := lt_num (t := t) h
  have c : (Rat.divInt t b).num * b = t * ((Rat.divInt t b).den : Int) := by
    have z : Rat.divInt (Rat.divInt t b).num ((Rat.divInt t b).den : Int) = Rat.divInt t b := Rat.num_divInt_den _
    have d0 : (((Rat.divInt t b).den : Nat) : Int) ≠ 0 := by
      have := (Rat.divInt t b).den_nz
      omega
    exact (Rat.divInt_eq_divInt_iff d0 h).mp z
  by_cases t0 : t = 0
  · subst t0
    have : Rat.divInt 0 b = 0 := Rat.zero_divInt b
    rw [this]
    have g : gcd 0 b = (b.natAbs : Int) := by unfold gcd; simp
    have bp := lb_pos (t := 0) h
    have a1 : (lb 0 b).natAbs * (sg 0 b).natAbs = b.natAbs := by rw [← Int.natAbs_mul, e2]
    rw [sg_abs, g] at a1
    have b0 : 0 < b.natAbs := by omega
    have a2 : (lb 0 b).natAbs = 1 := by
      have : (lb 0 b).natAbs * b.natAbs = 1 * b.natAbs := by simpa using a1
      exact Nat.eq_of_mul_eq_mul_right b0 this
    show lb 0 b = 1
    omega
  · rw [← n] at c
    have h1 : t * lb t b = t * ((Rat.divInt t b).den : Int) := by
      rw [← c]
      calc t * lb t b = (lt t b * sg t b) * lb t b := by rw [e1]
        _ = lt t b * (lb t b * sg t b) := by grind
        _ = lt t b * b := by rw [e2]
    exact Int.eq_of_mul_eq_mul_left t0 h1
theorem lt_rat (p q : Rat) : p.num * q.den < q.num * p.den ↔ p < q := (Rat.lt_iff p q).symm
end Fr
namespace Fr
theorem lt_abs (t b : Int) (h : b ≠ 0) : (lt t b).natAbs ≤ t.natAbs := by
  have e := lt_mul t b
  have g := sg_ne (t := t) h
  have h1 : (lt t b).natAbs * (sg t b).natAbs = t.natAbs := by rw [← Int.natAbs_mul, e]
  have h2 : 1 ≤ (sg t b).natAbs := by omega
  calc (lt t b).natAbs = (lt t b).natAbs * 1 := (Nat.mul_one _).symm
    _ ≤ (lt t b).natAbs * (sg t b).natAbs := Nat.mul_le_mul_left _ h2
    _ = t.natAbs := h1
end Fr
namespace L2
open PySem PySem.Spec PyProof.Rows
theorem TopFn.calN {c : Bool} {P : Program} {w : World} {K : PySem.W.Frag} {mg : Str → Option Value} {base : Heap} {x : Str} {st : Stmt} {N ps : List Str} {k : Nat} {sp : Sp} (T : TopFn K mg x st) (S : FnScope N ps (defScope st))
    (hb : ∀ (kV doc pm : Value) (an : Option Addr) (cdv ct : Value) (us : List Value), us.length = ps.length → bindArgs (PySem.W.fnOf x x (defArgs st) (defBody st) (defScope st) .none kV doc pm an cdv ct) ⟨us, []⟩ = pure (ps.zip us))
    (len : ∀ vs H Q E, sp vs H Q E → vs.length = ps.length)
    (hbody : ∀ (f : Addr) (cdv : Value) (A : Around) (outer : List Env) (s : Shared) (H : Hp) (vs : List V) (Q : VK) (E : XK), RoomB c k (A.deeper (envOfC x (defScope st) s.heap.objs.size f cdv)) → sp vs H Q E →
      ∃ t, PSs (cxB c P w K mg base N x (defScope st) f cdv A outer s H E).nox (defBody st) t ∧ t { nx := fun _ H' => Q .non H', rt := Q } (start N vs) H) : CalB P w K mg base c (k + 1) x ps sp :=
  T.calB S hb len fun f cdv A outer s H vs Q E hr h => by
    obtain ⟨t, h1, h2⟩ := hbody f cdv A outer s H vs Q E hr h
    exact ⟨t, h1.nox, h2⟩
theorem Fun.okB {c : Bool} {P : Program} {w : World} {K : PySem.W.Frag} {mg : Str → Option Value} {base : Heap} {x : Str} {st : Stmt} {f : Addr} {fd : FuncData} {N ps : List Str} {k : Nat} {sp : Sp} (F : Fun K x x st f fd) (S : FnScope N ps (defScope st))
    (len : ∀ vs H Q E, sp vs H Q E → vs.length = ps.length)
    (hbody : ∀ (cdv : Value) (A : Around) (outer : List Env) (s : Shared) (H : Hp) (vs : List V) (Q : VK) (E : XK), RoomB c k (A.deeper (envOfC x (defScope st) s.heap.objs.size f cdv)) → sp vs H Q E →
      ∃ t, PSs (cxB c P w K mg base N x (defScope st) f cdv A outer s H E).nox (defBody st) t ∧ t { nx := fun _ H' => Q .non H', rt := Q } (start N vs) H) : FnB P w K mg base c (k + 1) f fd ps sp := by
  obtain ⟨oc, od, kV, doc, pm, an, cdv, ct, osl, rfl, l, cd⟩ := id F.ex
  exact fnB_of l cd S len fun A outer s H vs Q E hr h => by
    obtain ⟨t, h1, h2⟩ := hbody cdv A outer s H vs Q E hr h
    exact ⟨t, h1.nox, h2⟩
end L2
namespace Lib
open PySem L2
def lim : Nat := 2 ^ 9000
theorem lim_log {n : Nat} (h : n < lim) : n.log2 < 9000 := Fr.log2_small h (by decide)
theorem lim_mul {n : Nat} (h : n < lim) : n < 2 ^ 10000 := Nat.lt_trans h (by unfold lim; decide +kernel)
def spDiv : Sp := fun vs H Q _ => ∃ a b : Int, vs = [.int a, .int b] ∧ Q (.int (Fr.gcd a b)) H
def spLaw (K : PySem.W.Frag) : Sp := fun vs H Q _ => ∃ (a : Addr) (ns : List Int), vs = [.ref a] ∧ SqL K H a (ns.map V.int) ∧ ns.length ≤ 63 ∧ ∀ H', Q (.bl true) H'
theorem decI (i j : Int) : decide (V.int i = V.int j) = decide (i = j) := by
  by_cases h : i = j
  · subst h; simp
  · have : ¬ V.int i = V.int j := fun z => h (V.int.inj z)
    rw [decide_eq_false h, decide_eq_false this]
theorem atI_in {xs : List V} {r : Int} (h0 : 0 ≤ r) (h1 : r < (xs.length : Int)) : ∃ v, atI xs r = some v ∧ v ∈ xs := by
  have hj : r.toNat < xs.length := by omega
  have e : ((r.toNat : Nat) : Int) = r := by omega
  have q : atI xs ((r.toNat : Nat) : Int) = some xs[r.toNat] := atI_nat (List.getElem?_eq_getElem hj)
  rw [e] at q
  exact ⟨_, q, List.getElem_mem hj⟩
theorem cut_ints (ns : List Int) (lo hi : Option Int) : ∀ x ∈ cutV (ns.map V.int) lo hi, ∃ z : Int, x = .int z := fun x hx => by
  unfold cutV at hx
  have h1 := List.mem_of_mem_drop (List.mem_of_mem_take hx)
  obtain ⟨z, _, rfl⟩ := List.mem_map.mp h1
  exact ⟨z, rfl⟩
theorem eqv_pair (a b c d : Int) : PyData.eqv (.tuple [.int a, .int b]) (.tuple [.int c, .int d]) = (decide (a = c) && decide (b = d)) := by
  simp only [PyData.eqv, PyData.eqvAll, Bool.and_true]
  by_cases h1 : a = c <;> by_cases h2 : b = d <;> simp [h1, h2]
end Lib
namespace Lib
open PySem L2
abbrev frO (q : Rat) : HO := .tup [.int q.num, .int (q.den : Int)]
def lim2 : Nat := 2 ^ 4000
theorem lim2_lim : lim2 < lim := by unfold lim lim2; decide +kernel
structure Sm (q : Rat) : Prop where
  n : q.num.natAbs < lim2
  d : q.den < lim2
theorem mulW {x y : Int} (hx : x.natAbs < lim2) (hy : y.natAbs < lim2) : CMulW x y := ⟨lim_mul (Nat.lt_trans hx lim2_lim), lim_mul (Nat.lt_trans hy lim2_lim)⟩
theorem Sm.dn {q : Rat} (h : Sm q) : ((q.den : Int)).natAbs < lim2 := by rw [Int.natAbs_natCast]; exact h.d
theorem denp (q : Rat) : (0 : Int) < ((q.den : Nat) : Int) := by have := q.den_nz; omega
theorem frO_of {t b : Int} (h : b ≠ 0) : (HO.tup [.int (Fr.lt t b), .int (Fr.lb t b)]) = frO (Rat.divInt t b) := by
  rw [Fr.lt_num h, Fr.lb_den h]
theorem frO_gcd (q : Rat) : Fr.gcd q.num (q.den : Int) = 1 := by
  unfold Fr.gcd
  have := q.reduced
  unfold Nat.Coprime at this
  rw [Int.natAbs_natCast, this]
  rfl
theorem eqv_fr (p q : Rat) : PyData.eqv (.tuple [.int p.num, .int (p.den : Int)]) (.tuple [.int q.num, .int (q.den : Int)]) = decide (p = q) := by
  rw [eqv_pair]
  by_cases h : p = q
  · subst h; simp
  · rw [decide_eq_false h]
    by_cases h1 : p.num = q.num
    · have h2 : ¬ ((p.den : Int) = (q.den : Int)) := fun z => h (Rat.ext h1 (Int.ofNat.inj z))
      simp [h2]
    · simp [h1]
end Lib
namespace Lib
open PySem L2
end Lib
namespace L2
open PySem PySem.Spec PyProof.Rows PySem.Builtin PySem.Builtin.Str
section
variable {X : Cx}
variable {a : Expr} {ta : TE} {es : List Expr} {tr : Str → St → Hp → VK → Prop} {p pos : Pos}
theorem call_all (hc : X.calm = true) : CallR X (.builtin "all") (fun xs H Q => ∃ (p : Addr) (bs : List Bool), xs = [.ref p] ∧ SqL X.K H p (bs.map V.bl) ∧ Q (.bl (bs.all id)) H) := by
  intro pins s σ H xs us Q I r h
  obtain ⟨p, bs, rfl, hp, q⟩ := h
  obtain ⟨u, rfl, ru⟩ := vals1 r
  cases ru
  obtain ⟨its, rv, pl, hz⟩ := I.list hp
  have hlen : its.toArray.size = bs.length := by
    have := rv.length
    rw [List.length_map] at this
    rw [List.size_toArray]; exact this.symm
  have hlt : p < s.heap.objs.size := by
    obtain ⟨o, e, _⟩ := pl.isList
    exact Heap.lt_size e
  have hh : X.A.in1.handled = none := I.ok.hd hc
  refine call_all_walk (wpAny_pyIter_list pl.isList ⟨s.heap.objs.size, _, _, _, _, _, fun i => bs.getD i false, rfl, Walks.list hh s.heap.objs.size p (Nat.ne_of_lt hlt) its.toArray, ⟨⟨_, Heap.get?_push_size _ rfl, rfl, rfl⟩, pl.isList.push _⟩, ?_, fun h' tk k => ?_⟩)
  · intro i v s1 Q1 E1 hP hQ
    have hg : its[i]? = some v := by simpa using hP
    have hb : bs[i]? = some (bs.getD i false) ∧ RelV (.bl (bs.getD i false)) v := by
      have hi : i < bs.length := by
        have := (List.getElem?_eq_some_iff.mp hg).1
        rw [← hlen, List.size_toArray]; exact this
      have e1 : (bs.map V.bl)[i]? = some (.bl (bs.getD i false)) := by
        rw [List.getElem?_map, List.getD_eq_getElem?_getD, List.getElem?_eq_getElem hi]; rfl
      obtain ⟨u, hu, ru⟩ := rv.get e1
      rw [hg] at hu
      cases hu
      refine ⟨?_, ru⟩
      rw [List.getD_eq_getElem?_getD, List.getElem?_eq_getElem hi]; rfl
    obtain ⟨_, ru⟩ := hb
    cases ru
    exact wpAny_truthy_bool hQ
  · have e : (List.range its.toArray.size).all (fun i => bs.getD i false) = bs.all id := by
      rw [hlen]
      clear hlen rv q k hp hz
      induction bs with
      | nil => rfl
      | cons b r ih =>
        rw [List.length_cons, List.range_succ_eq_map, List.all_cons, List.all_map, List.all_cons, ← ih]
        rfl
    rw [e]
    exact ⟨.bl _, H, I.kept (h' := h') (t' := tk) fun b o e => k b o (by
      intro hb
      have : b = s.heap.objs.size := by simpa using hb
      exact absurd (Heap.lt_size e) (by rw [this]; exact Nat.lt_irrefl _)) (Heap.get?_push_of_some _ e), rfl, q⟩
end
end L2
namespace L2
open PySem PySem.Spec PyProof.Rows PySem.Builtin PySem.Builtin.Str
end L2
namespace Tx
open PySem PySem.Builtin PySem.Builtin.Str PySem.NumText PyProof.Rows
end Tx
namespace Tx
open PySem PySem.Builtin PySem.Builtin.Str PySem.NumText PyProof.Rows
end Tx
namespace Lib
open PySem L2 Tx PySem.NumText
end Lib
namespace Lib
open PySem L2 Tx PySem.NumText
end Lib
namespace Tx
end Tx
namespace Lib
open PySem L2 Tx PySem.NumText
theorem rat_of {i j : Int} (h1 : 1 ≤ j) (h2 : Fr.gcd i j = 1) : ∃ q : Rat, q.num = i ∧ ((q.den : Nat) : Int) = j := by
  have hj : j ≠ 0 := by omega
  obtain ⟨g1, g2⟩ := (Fr.low_same (t := i) (b := j) (by omega)).mpr h2
  exact ⟨Rat.divInt i j, by rw [← Fr.lt_num hj, g1], by rw [← Fr.lb_den hj, g2]⟩
end Lib
namespace Lib
open PySem L2 Tx
end Lib
namespace L2
open PySem PySem.Spec PyProof.Rows
section
variable {prog : Program} {w : World} {A : Around} {R : Result → Shared → Prop} {s : Shared}
theorem compLoop_own {elt target iter : Expr} {ifs : List Expr} {scope : Scope} {pos : Pos} {it acc : Value} {env : Env} (I : Nat → Shared → Prop)
    (turn : ∀ n s, I n s → wpAny (model prog w) A (pyNext it) (fun r s₁ => match r with
      | none => R (.ok .next) s₁
      | some v => wpAny (model prog w) A (letOwnedTupleGo target it v) (fun _ s₁' => wpAny (model prog w) A (assign target env v) (fun _ s₂ =>
          wpAny (model prog w) A (forIn ifs true fun c r => if r = true then do let ok ← isTrue c env (eval c env); pure (ForInStep.yield ok) else pure (ForInStep.yield r)) (fun ok s₃ =>
            if ok = true then wpAny (model prog w) A (eval elt env) (fun x s₄ =>
              wpAny (model prog w) A (call (.builtin "list.append") [acc, x]) (fun _ s₅ => ∃ m, m < n ∧ I m s₅) (fun _ _ => False) s₄) (fun _ _ => False) s₃
            else ∃ m, m < n ∧ I m s₃) (fun _ _ => False) s₂) (fun _ _ => False) s₁') (fun _ _ => False) s₁) (fun _ _ => False) s)
    (n : Nat) (h : I n s) :
    codeAny (model prog w) A (.compLoop (.ListComp elt [⟨target, iter, ifs, 0⟩] scope pos) 0 it acc env) R s := by
  refine codeAny_loop rfl I (fun n s hI => ?_) n h
  show wpAny _ A ((compTurn (.ListComp elt [⟨target, iter, ifs, 0⟩] scope pos) 0 it acc env).onRaise (fun x => do noteFrame x env; theTreesLotGoes x)) _ _ s
  refine wpAny_noted ?_
  rw [compTurn_list]
  refine wpAny_bind (wpAny_standAt (wpAny_bind (wpAny_mono (turn n s hI) (fun r s₁ h₁ => ?_) fun _ _ z => z.elim)))
  cases r with
  | none => exact wpAny_pure h₁
  | some v =>
    refine wpAny_bind (wpAny_mono h₁ (fun _ s₁' h₁' => ?_) fun _ _ z => z.elim)
    refine wpAny_bind (wpAny_mono h₁' (fun _ s₂ h₂ => wpAny_bind (wpAny_mono h₂ (fun ok s₃ h₃ => ?_) fun _ _ z => z.elim)) fun _ _ z => z.elim)
    cases ok with
    | false => exact wpAny_pure ⟨rfl, h₃⟩
    | true =>
      exact wpAny_bind (wpAny_bind (wpAny_mono h₃ (fun x s₄ h₄ => wpAny_bind (wpAny_mono h₄ (fun _ s₅ h₅ => wpAny_pure (wpAny_pure ⟨rfl, h₅⟩)) fun _ _ z => z.elim)) fun _ _ z => z.elim))
end
def cxC (X : Cx) (scope : Scope) (cl : List (Str × Addr)) (N' : List Str) (C : Addr) (fp : List Addr) (pins : List (Addr × Obj)) (s2 : Shared) (H2 : Hp) : Cx :=
  { X with N := N', s₀ := s2, H₀ := H2, env := compEnvC scope cl C X.env, outer := X.stack, ex := fp, fn := fun _ => false, pn := X.pn ++ pins, xe := fun _ _ => False }
structure CapOk (X : Cx) (scope : Scope) (cl : List (Str × Addr)) : Prop where
  clos : closureFor scope X.env = pure cl
  sub : ∀ y c, cl.lookup y = some c → X.env.cells.lookup y = some c
  has : ∀ y, ((relabel scope X.env).names.lookup y = some .cell ∨ (relabel scope X.env).names.lookup y = some .free) → ∃ c, cl.lookup y = some c
theorem relabel_same {scope : Scope} {env : Env} (hfree : ∀ y ∈ scope.names, y.2 ≠ .free) : (relabel scope env).names = scope.names := by
  unfold relabel
  exact map_eq_self (l := scope.names) fun x hx => by
    obtain ⟨n, k⟩ := x
    have : (k == NameKind.free) = false := by simpa using hfree _ hx
    simp [this]
theorem cap_nil {X : Cx} {scope : Scope} (hfree : ∀ y ∈ scope.names, y.2 ≠ .free) (hcell : ∀ y ∈ scope.names, y.2 ≠ .cell) : CapOk X scope [] := by
  refine ⟨closureFor_none hfree, fun y c e => (by simp at e), fun y e => ?_⟩
  rw [relabel_same hfree] at e
  exfalso
  rcases e with e | e
  · exact hcell _ (PySem.mem_of_lookup e) rfl
  · exact hfree _ (PySem.mem_of_lookup e) rfl
def capSt (caps : List (Option Nat)) (σ : St) : St := caps.map fun o => o.bind fun j => (σ[j]?).join
section
variable {X : Cx} {pins : List (Addr × Obj)} {σ : St} {H2 : Hp} {s2 : Shared} {scope : Scope} {cl : List (Str × Addr)} {N' : List Str} {C : Addr} {fp : List Addr} {caps : List (Option Nat)}
theorem notStk (I : Inv X pins σ H2 s2) {b : Addr} (h1 : b ≠ X.env.locals) (h2 : b ∉ X.fs) : b ∉ frs X.stack := fun z => (List.mem_cons.mp (I.stkSub b z)).elim h1 h2
theorem inv_comp (I : Inv X pins σ H2 s2) (hf : ∀ b ∈ fp, FpOk X pins H2 b) (hl : ∀ b ∈ fp, b < s2.heap.objs.size) (hk : scope.kind = .function) (cap : CapOk X scope cl) (hC : s2.heap.objs.size ≤ C) {s4 : Shared} (os : s4.os = s2.os) (bare : AllBare s4.gens)
    (k : ∀ b o, s2.heap.get? b = some o → s4.heap.get? b = some o) (ns : s4.heap.Ns C fun _ => none) (hN : caps.length = N'.length)
    (hcap : ∀ (i j : Nat), caps[i]? = some (some j) → ∃ y : Str, N'[i]? = some y ∧ X.N[j]? = some y ∧ (relabel scope X.env).names.lookup y = some .cell ∧ X.env.scope.names.lookup y = some .cell) :
    Inv (cxC X scope cl N' C fp pins s2 H2) [] (capSt caps σ) H2 s4 := by
  have neC : ∀ b : Addr, b < s2.heap.objs.size → b ≠ C := fun b h => Nat.ne_of_lt (Nat.lt_of_lt_of_le h hC)
  refine ⟨⟨I.ok.mod, ?_, I.ok.glob, I.ok.blt, hC, fun y z c h1 h2 => I.ok.inj y z c (cap.sub y c h1) (cap.sub z c h2), fun y h => cap.has y h, (fun y c z => nomatch z), I.ok.hd, I.ok.frames, .inl rfl, fun b hb => ⟨neC b (hl b hb), fun y c e => (hf b hb).2.2.2.2.1 y c (cap.sub y c e)⟩,
    fun b o e => I.bs b o e, Nat.le_trans I.ok.bsz I.sz, fun b o e hb => ?_, fun b hb => notStk I (hf b hb).2.1 (hf b hb).2.2.1, I.stack, I.stkFree⟩,
    os, bare, Un.kept k, ⟨_, ns, fun i y v h1 h2 h3 => ?_⟩, fun y c e => ?_, I.hok.fresh hC, fun y c e => I.freeC y c (cap.sub y c e), fun p hp => ?_, I.hok.kept k, ?_⟩
  · show (relabel scope X.env).kind = .function
    exact hk
  · rcases (hf b hb).2.2.2.1 with z | z
    · exact I.ok.noex b o e z
    · exact absurd (Nat.lt_of_lt_of_le (Heap.lt_size e) (Nat.le_trans I.ok.bsz z)) (Nat.lt_irrefl _)
  · have h1 : N'[i]? = some y := h1
    unfold capSt at h2
    rw [List.getElem?_map] at h2
    cases hc : caps[i]? with
    | none => rw [hc] at h2; cases h2
    | some o =>
      rw [hc] at h2
      cases o with
      | none => cases h2
      | some j =>
        obtain ⟨y', e1, e2, e3, e4⟩ := hcap i j hc
        rw [h1] at e1
        cases e1
        have hj : σ[j]? = some (some v) := by
          have z : (σ[j]?).join = some v := by simpa using h2
          cases q : σ[j]? with
          | none => rw [q] at z; cases z
          | some w' => rw [q] at z; exact congrArg some z
        obtain ⟨m, hn, hm⟩ := I.loc
        obtain ⟨u, ru, lk⟩ := hm j y v e2 hj (.inr (.inl e4))
        refine ⟨u, ru, .inr ⟨.inl e3, ?_⟩⟩
        rcases lk with ⟨z, _⟩ | ⟨_, c, ec, o', ho', hd'⟩
        · rw [show X.env.kindOf y = X.env.scope.names.lookup y from rfl, e4] at z; cases z
        · obtain ⟨c', ec'⟩ := cap.has y (.inl e3)
          have := cap.sub y c' ec'
          rw [ec] at this
          cases this
          exact ⟨c, ec', o', k _ _ ho', hd'⟩
  · obtain ⟨v, o, ho, hd⟩ := I.cell y c (cap.sub y c e)
    exact ⟨v, o, k _ _ ho, hd⟩
  · have hp : p ∈ (X.pn ++ pins) ++ [] := hp
    rw [List.append_nil] at hp
    obtain ⟨e, n, ne, nf, d⟩ := I.pin p hp
    exact ⟨k _ _ e, n, neC _ (Heap.lt_size e), notStk I ne nf, d⟩
  · show (capSt caps σ).length = N'.length
    unfold capSt
    rw [List.length_map]
    exact hN
theorem comp_end {pl : List (Addr × Obj)} {σ' : St} {H' : Hp} {s' : Shared} {D : Addr} {items : Array Value} {ys : List V} {h'' : Heap} (I : Inv X pins σ H2 s2) (hf : ∀ b ∈ fp, FpOk X pins H2 b) (I' : Inv (cxC X scope cl N' C fp pins s2 H2) pl σ' H' s')
    (hpl : s'.heap.PlainList D items) (nD : H' D = none) (newD : s2.heap.get? D = none) (hDC : D ≠ C) (rv : Vals ys items.toList) (hz : ys.length ≤ sizeLine) (sb : Heap.SameBut C s'.heap h'') : Inv X pins σ (upd H' D (.lst ys)) { s' with heap := h'' } := by
  have hC : s2.heap.objs.size ≤ C := I'.ok.above
  have neC : ∀ b o, s2.heap.get? b = some o → b ≠ C := fun b o e => Nat.ne_of_lt (Nat.lt_of_lt_of_le (Heap.lt_size e) hC)
  have nC : H' C = none := I'.free
  obtain ⟨n0, ho⟩ := hpl
  refine I.call' (s' := { s' with heap := h'' }) (ch := fp) I'.os ⟨fun b o e n hb hx => sb.extBut b o (neC b o e) (I'.base.keep b o e n hb hx), fun b o e n hb hx => ?_, fun b o e n hx => ?_, fun b o e hx => ?_, fun b xs e => ?_, fun b o u e => ?_, fun b ps e => ?_⟩ (fun b o e => ?_) I'.bare fun b hb => ?_
  · obtain ⟨sl, q⟩ := I'.base.slot b o e n hb hx
    exact ⟨sl, sb.extBut b _ (neC b o e) q⟩
  · have : b ≠ D := fun z => by rw [z, newD] at e; cases e
    rw [upd_ne this]
    exact I'.base.free b o e n hx
  · obtain ⟨o', q⟩ := I'.base.there b o e hx
    exact ⟨o', sb.extBut b _ (neC b o e) q⟩
  · have q := I'.base.tups b xs e
    rw [upd_ne (ne_of_none q nD)]; exact q
  · have q := I'.base.frzs b o u e
    rw [upd_ne (ne_of_none q nD)]; exact q
  · obtain ⟨m, q⟩ := I'.base.tbls b ps e
    exact ⟨m, by rw [upd_ne (ne_of_none q nD)]; exact q⟩
  · by_cases hb : b = D
    · subst hb
      rw [upd_same] at e
      cases e
      exact ⟨hz, items.toList, n0, rv, sb.extBut _ _ hDC ho⟩
    · rw [upd_ne hb] at e
      refine (I'.hok b o e).stay (fun c v hc q => sb.extBut c v ?_ q) (fun c q => by rw [upd_ne (ne_of_none q nD)]; exact q) fun c xs q => by rw [upd_ne (ne_of_none q nD)]; exact q
      intro z
      subst z
      rcases hc with z | z
      · rw [← z, nC] at e; cases e
      · rw [nC] at z; cases z
  · obtain ⟨f0, f1, f2, f3, f4, f5⟩ := hf b hb
    exact ⟨f3, f1, f4, f5⟩
end
def PIfs (X : Cx) (ifs : List Expr) (t : TT) : Prop :=
  ∀ (pins : List (Addr × Obj)) (s : Shared) (σ : St) (H : Hp) (Q : Bool → Hp → Prop), Inv X pins σ H s → t σ H Q →
    wpAny (model X.prog X.w) X.A (forIn ifs true fun c r => if r = true then do let ok ← isTrue c X.env (eval c X.env); pure (ForInStep.yield ok) else pure (ForInStep.yield r)) (TP X pins σ Q) X.xe s
def tYes : TT := fun _ H Q => Q true H
theorem pifs_nil {X : Cx} : PIfs X [] tYes := fun pins s σ H Q I h => by
  simp only [List.forIn_nil]
  exact wpAny_pure ⟨H, I, h⟩
def tCompB (g : TG) (tt : TT) (te : TE) (J : It) (σ : St) (H1 : Hp) (Q : VK) : Prop := ∃ W : Nat → Nat → St → List V → Hp → Prop, (∃ m, W 0 m σ [] H1) ∧ ∀ i m σ' ys H, W i m σ' ys H → ys.length ≤ sizeLine ∧
  ((J.stop i H ∧ ∀ p, H p = none → Q (.ref p) (upd H p (.lst ys))) ∨
   (J.go i H ∧ ∀ x H', J.yld i H x H' → g x σ' H' fun σ2 H2 => tt σ2 H2 fun b H3 => if b = true then te σ2 H3 fun y H4 => ∃ m', m' < m ∧ W (i + 1) m' σ2 (ys ++ [y]) H4 else ∃ m', m' < m ∧ W (i + 1) m' σ2 ys H3))
def tComp (wi : TI) (g : TG) (tt : TT) (te : TE) (caps : List (Option Nat)) : TE := fun σ H Q => wi σ H fun J H1 => tCompB g tt te J (capSt caps σ) H1 Q
theorem comp_run {X : Cx} {tg elt iter : Expr} {ifs : List Expr} {scope : Scope} {pos : Pos} {wi : TI} {g : TG} {tt : TT} {te : TE} {cl : List (Str × Addr)} (N' : List Str) (caps : List (Option Nat)) (hc : X.calm = true) (hi : PI X tg iter wi)
    (hg : ∀ C fp pins s2 H2, PG (cxC X scope cl N' C fp pins s2 H2) tg g) (ht : ∀ C fp pins s2 H2, PIfs (cxC X scope cl N' C fp pins s2 H2) ifs tt) (he : ∀ C fp pins s2 H2, PE (cxC X scope cl N' C fp pins s2 H2) elt te)
    (cap : CapOk X scope cl) (hcell : ∀ y ∈ scope.names, y.2 ≠ .cell) (hkind : scope.kind = .function) (hnames : ∀ y ∈ scope.names, y.2 = .local → scope.names.lookup y.1 = some .local) (hN : caps.length = N'.length)
    (hcap : ∀ (i j : Nat), caps[i]? = some (some j) → ∃ y : Str, N'[i]? = some y ∧ X.N[j]? = some y ∧ (relabel scope X.env).names.lookup y = some .cell ∧ X.env.scope.names.lookup y = some .cell)
    (hs : ∀ x, foldedSetIterable iter X.env x = pure x) {pins : List (Addr × Obj)} {s : Shared} {σ : St} {H : Hp} {Q : VK} {use : Option (Value → Sem Unit)} {QQ : Value → Shared → Prop}
    (fin : ∀ (C D : Addr) (fp : List Addr) (s2 s4 : Shared) (H2 H4 : Hp) (pl : List (Addr × Obj)) (σ' : St) (items : Array Value) (ys : List V), Inv X pins σ H2 s2 → (∀ b ∈ fp, FpOk X pins H2 b) → Inv (cxC X scope cl N' C fp pins s2 H2) pl σ' H4 s4 → s4.heap.PlainList D items → H4 D = none → s2.heap.get? D = none → D ≠ C →
      Vals ys items.toList → ys.length ≤ sizeLine → (∀ p, H4 p = none → Q (.ref p) (upd H4 p (.lst ys))) → compPost (model X.prog X.w) X.A X.xe use QQ (.ref D) C (.ok .next) s4)
    (I : Inv X pins σ H s) (h : tComp wi g tt te caps σ H Q) : wpAny (model X.prog X.w) X.A (comprehension (.ListComp elt [⟨tg, iter, ifs, 0⟩] scope pos) scope X.env (firstIterPos [⟨tg, iter, ifs, 0⟩] pos) (newList []) false (eval iter X.env) use) QQ X.xe s := by
  refine wpAny_comprehension_free (use := use) rfl hs cap.clos hkind hnames (thn (hi pins s σ H _ I h) fun xv s₁ h₁ => thn h₁ fun itv s₂ h₂ => ?_)
  obtain ⟨it, fp, tn, J, H2, rfl, I2, T, st2, f2, W, ⟨m0, w0⟩, turn⟩ := h₂
  have hfp : ∀ b ∈ fp, b < s₂.heap.objs.size := fun b hb => by obtain ⟨o, e, _⟩ := T.obj _ _ st2 b hb; exact Heap.lt_size e
  refine wpAny_newObj_type (wpAny_newFunctionEnv hcell (by intro y hy; simp at hy) (fun h₁ hns₁ hsb₁ => ?_) hkind)
  dsimp only at hns₁ hsb₁ ⊢
  generalize hH2 : s₂.heap.push { cls := .type "list", dict := none, data := .seq ([] : List Value).toArray } = H2' at hns₁ hsb₁ ⊢
  have hC : H2'.objs.size = s₂.heap.objs.size + 1 := by rw [← hH2, Heap.size_push]
  have hDC : s₂.heap.objs.size ≠ H2'.objs.size := by rw [hC]; exact Nat.ne_of_lt (Nat.lt_succ_self _)
  have hCle : s₂.heap.objs.size ≤ H2'.objs.size := by rw [hC]; exact Nat.le_succ _
  have below : ∀ b, b < s₂.heap.objs.size → b ≠ H2'.objs.size := fun b hb => by rw [hC]; exact Nat.ne_of_lt (Nat.lt_succ_of_lt hb)
  have old : ∀ b o, s₂.heap.get? b = some o → h₁.get? b = some o := fun b o e => hsb₁.extBut b o (below b (Heap.lt_size e)) (Heap.get?_push_of_some _ (hH2 ▸ Heap.get?_push_of_some _ e))
  have hacc : h₁.PlainList s₂.heap.objs.size #[] := ⟨_, hsb₁.extBut _ _ hDC (Heap.get?_push_of_some _ (hH2 ▸ Heap.get?_push_size _ rfl))⟩
  have newD : s₂.heap.get? s₂.heap.objs.size = none := Heap.get?_none_of_le (Nat.le_refl _)
  have nD2 : H2 s₂.heap.objs.size = none := I2.hok.fresh (Nat.le_refl _)
  generalize hDD : s₂.heap.objs.size = D at *
  generalize hCC : H2'.objs.size = C at *
  have fpD : ∀ b ∈ fp, b ≠ D := fun b hb => Nat.ne_of_lt (hfp b hb)
  have statX : ∀ {H' : Hp} {pl : List (Addr × Obj)}, (∀ p ∈ pl, p.1 = D) → (∀ b ∈ fp, H' b = none) → ∀ b ∈ fp, FpOk (cxC X scope cl N' C fp pins s₂ H2) pl H' b := fun {H' pl} hpl hn b hb => by
    obtain ⟨f0, f1, f2', f3, f4, f5⟩ := f2 b hb
    refine ⟨hn b hb, below b (hfp b hb), notStk I2 f1 f2', .inl hb, fun y c e => f4 y c (cap.sub y c e), fun p hp => ?_⟩
    rcases List.mem_append.mp hp with hp | hp
    · exact f5 p hp
    · rw [hpl p hp]; exact (fpD b hb).symm
  have ht' : ∀ n s', (∃ i σ' ys, ∃ (items : Array Value), ∃ H', Inv (cxC X scope cl N' C fp pins s₂ H2) [] σ' H' s' ∧ tn i s'.heap ∧ (∀ b ∈ fp, H' b = none) ∧ s'.heap.PlainList D items ∧ Vals ys items.toList ∧ H' D = none ∧ W i n σ' ys H') →
      wpAny (model X.prog X.w) X.A (pyNext (.ref it)) (fun r s₁ => match r with
      | none => compPost (model X.prog X.w) X.A X.xe use QQ (.ref D) C (.ok .next) s₁
      | some v => wpAny (model X.prog X.w) X.A (letOwnedTupleGo tg (.ref it) v) (fun _ s₁' => wpAny (model X.prog X.w) X.A (assign tg (compEnvC scope cl C X.env) v) (fun _ s₂' =>
          wpAny (model X.prog X.w) X.A (forIn ifs true fun c r => if r = true then do let ok ← isTrue c (compEnvC scope cl C X.env) (eval c (compEnvC scope cl C X.env)); pure (ForInStep.yield ok) else pure (ForInStep.yield r)) (fun ok s₃ =>
            if ok = true then wpAny (model X.prog X.w) X.A (eval elt (compEnvC scope cl C X.env)) (fun x s₄ =>
              wpAny (model X.prog X.w) X.A (call (.builtin "list.append") [.ref D, x]) (fun _ s₅ => ∃ m, m < n ∧ ∃ i σ' ys, ∃ (items : Array Value), ∃ H', Inv (cxC X scope cl N' C fp pins s₂ H2) [] σ' H' s₅ ∧ tn i s₅.heap ∧ (∀ b ∈ fp, H' b = none) ∧ s₅.heap.PlainList D items ∧ Vals ys items.toList ∧ H' D = none ∧ W i m σ' ys H') (fun _ _ => False) s₄) (fun _ _ => False) s₃
            else ∃ m, m < n ∧ ∃ i σ' ys, ∃ (items : Array Value), ∃ H', Inv (cxC X scope cl N' C fp pins s₂ H2) [] σ' H' s₃ ∧ tn i s₃.heap ∧ (∀ b ∈ fp, H' b = none) ∧ s₃.heap.PlainList D items ∧ Vals ys items.toList ∧ H' D = none ∧ W i m σ' ys H') (fun _ _ => False) s₂') (fun _ _ => False) s₁') (fun _ _ => False) s₁) (fun _ _ => False) s' := by
    rintro n s3 ⟨i, σ3, ys, items, H3, I3, st3, fr3, pl3, rv3, nD3, w3⟩
    obtain ⟨hz, hw⟩ := turn i n σ3 ys H3 w3
    obtain ⟨n0, ho⟩ := id pl3
    have nfsD : D ∉ frs X.stack := fun z => by
      obtain ⟨_, o, e, _⟩ := I2.stack.mem z
      rw [newD] at e; cases e
    have I3p : Inv (cxC X scope cl N' C fp pins s₂ H2) [(D, { cls := .type "list", data := .seq items n0 })] σ3 H3 s3 := I3.pins_of fun p hp => by
      have e : p = (D, { cls := .type "list", data := .seq items n0 }) := by simpa using hp
      subst e
      exact ⟨ho, nD3, hDC, nfsD, fun v z => by cases z⟩
    have one : ∀ p ∈ [(D, ({ cls := .type "list", data := .seq items n0 } : Obj))], p.1 = D := fun p hp => by
      have e : p = (D, { cls := .type "list", data := .seq items n0 }) := by simpa using hp
      subst e; rfl
    rcases hw with ⟨stop, qn⟩ | ⟨go, step⟩
    · refine thn (T.done (cxC X scope cl N' C fp pins s₂ H2) rfl rfl rfl hc i _ s3 σ3 H3 (fun _ _ => False) I3p (statX one fr3) st3 stop) fun r s4 ⟨hr, I4⟩ => ?_
      subst hr
      obtain ⟨e4, nD4, _⟩ := I4.pin _ (List.mem_append_right _ (List.mem_singleton.mpr rfl))
      exact fin C D fp s₂ s4 H2 H3 _ σ3 items ys I2 f2 I4 ⟨n0, e4⟩ nD4 (hDD ▸ newD) hDC rv3 hz qn
    · refine thn (T.item (cxC X scope cl N' C fp pins s₂ H2) rfl rfl rfl hc i _ s3 σ3 H3 (fun _ _ => False) I3p (statX one fr3) st3 go) fun r s4 ⟨u, hr, h4⟩ => ?_
      subst hr
      refine thn h4 fun _ s5 ⟨x, H5, I5, r5, y5, st5, fr5⟩ => ?_
      have I5' := I5.pinned (statX one fr5) (T.obj _ _ st5)
      refine thn (hg C fp pins s₂ H2 _ s5 σ3 H5 x u _ I5' r5 (step x H5 y5)) fun _ s6 ⟨σ6, H6, I6, q6⟩ => ?_
      refine thn (ht C fp pins s₂ H2 _ s6 σ6 H6 _ I6 q6) fun b s7 ⟨H7, I7, q7⟩ => ?_
      have back : ∀ {H8 : Hp} {s8 : Shared}, Inv (cxC X scope cl N' C fp pins s₂ H2) ([(D, ({ cls := .type "list", data := .seq items n0 } : Obj))] ++ pinsAt fp s5.heap) σ6 H8 s8 →
          Inv (cxC X scope cl N' C fp pins s₂ H2) [] σ6 H8 s8 ∧ tn (i + 1) s8.heap ∧ (∀ b ∈ fp, H8 b = none) ∧ s8.heap.PlainList D items ∧ H8 D = none := fun {H8 s8} I8 => by
        refine ⟨I8.pins_of (fun p hp => nomatch hp), T.keep _ _ _ st5 fun b hb o e => (I8.pin (b, o) (List.mem_append_right _ (List.mem_append_right _ (mem_pinsAt hb e)))).1, fun b hb => ?_, ?_, ?_⟩
        · obtain ⟨o, e, d⟩ := T.obj _ _ st5 b hb
          exact (I8.pin (b, o) (List.mem_append_right _ (List.mem_append_right _ (mem_pinsAt hb e)))).2.1
        · exact ⟨n0, (I8.pin _ (List.mem_append_right _ (List.mem_append_left _ (List.mem_singleton.mpr rfl)))).1⟩
        · exact (I8.pin _ (List.mem_append_right _ (List.mem_append_left _ (List.mem_singleton.mpr rfl)))).2.1
      cases b with
      | false =>
        rw [if_neg Bool.false_ne_true] at q7
        obtain ⟨m', hm, w7⟩ := q7
        obtain ⟨J1, J2, J3, J4, J5⟩ := back I7
        rw [if_neg Bool.false_ne_true]
        exact ⟨m', hm, i + 1, σ6, ys, items, H7, J1, J2, J3, J4, rv3, J5, w7⟩
      | true =>
        rw [if_pos rfl] at q7
        rw [if_pos rfl]
        refine thn (he C fp pins s₂ H2 _ s7 σ6 H7 _ I7 q7) fun v s8 ⟨y, H8, I8, r8, m', hm, w8⟩ => ?_
        obtain ⟨J1, J2, J3, J4, J5⟩ := back I8
        have hit : items.size ≤ sizeLine := by
          have e : ys.length = items.size := by simpa using rv3.length
          omega
        refine wpAny_list_append_plain (hsz := hit) J4 fun h9 hl9 hs9 => ?_
        have nc : ∀ y c, cl.lookup y = some c → c ≠ D := fun y c e z => by
          obtain ⟨v, o, ho, _⟩ := I2.cell y c (cap.sub y c e)
          rw [z, newD] at ho; cases ho
        have np : ∀ p ∈ (X.pn ++ pins) ++ [], p.1 ≠ D := fun p hp z => by
          rw [List.append_nil] at hp
          have e := (I2.pin p hp).1
          rw [z, newD] at e; cases e
        have J9 : Inv (cxC X scope cl N' C fp pins s₂ H2) [] σ6 H8 { s8 with heap := h9 } := J1.turned (it := D) (t' := s8.toks) (fun b o hb e => hs9.extBut b o hb e) J5 hDC (.inr (Nat.le_of_eq hDD)) nc np
        refine ⟨m', hm, i + 1, σ6, ys ++ [y], items.push v, H8, J9, T.keep _ _ _ J2 fun b hb o e => hs9.extBut b o (fpD b hb) e, J3, hl9, ?_, J5, w8⟩
        rw [Array.toList_push]
        exact rv3.append (.cons r8 .nil)
  have I0 : Inv (cxC X scope cl N' C fp pins s₂ H2) [] (capSt caps σ) H2 { s₂ with heap := h₁, toks := s₂.toks + ([] : List (Str × Value)).length } :=
    inv_comp I2 f2 (fun b hb => hDD ▸ hfp b hb) hkind cap (by rw [hDD]; exact hCle) rfl I2.bare old hns₁ hN hcap
  have st0 : tn 0 h₁ := T.keep _ _ _ st2 fun b _ o e => old b o e
  have loop : ∀ s₃ : Shared, s₃ = { s₂ with heap := h₁, toks := s₂.toks + ([] : List (Str × Value)).length } →
      codeAny (model X.prog X.w) X.A (.compLoop (.ListComp elt [⟨tg, iter, ifs, 0⟩] scope pos) 0 (.ref it) (.ref D) (compEnvC scope cl C X.env)) (compPost (model X.prog X.w) X.A X.xe use QQ (.ref D) C) s₃ := by
    rintro s₃ rfl
    exact compLoop_own _ ht' m0 ⟨0, _, [], #[], H2, I0, st0, fun b hb => (f2 b hb).1, hacc, .nil, nD2, w0⟩
  exact codeAny_compStart_list (loop _ rfl) (T.self X.A 0 _ _ _ st0 (loop _ rfl))
theorem pe_comp {X : Cx} {tg elt iter : Expr} {ifs : List Expr} {scope : Scope} {pos : Pos} {wi : TI} {g : TG} {tt : TT} {te : TE} {cl : List (Str × Addr)} (N' : List Str) (caps : List (Option Nat)) (hc : X.calm = true) (hi : PI X tg iter wi)
    (hg : ∀ C fp pins s2 H2, PG (cxC X scope cl N' C fp pins s2 H2) tg g) (ht : ∀ C fp pins s2 H2, PIfs (cxC X scope cl N' C fp pins s2 H2) ifs tt) (he : ∀ C fp pins s2 H2, PE (cxC X scope cl N' C fp pins s2 H2) elt te)
    (cap : CapOk X scope cl) (hcell : ∀ y ∈ scope.names, y.2 ≠ .cell) (hkind : scope.kind = .function) (hnames : ∀ y ∈ scope.names, y.2 = .local → scope.names.lookup y.1 = some .local) (hN : caps.length = N'.length)
    (hcap : ∀ (i j : Nat), caps[i]? = some (some j) → ∃ y : Str, N'[i]? = some y ∧ X.N[j]? = some y ∧ (relabel scope X.env).names.lookup y = some .cell ∧ X.env.scope.names.lookup y = some .cell)
    (hs : ∀ x, foldedSetIterable iter X.env x = pure x := by intro _; rfl) :
    PE X (.ListComp elt [⟨tg, iter, ifs, 0⟩] scope pos) (tComp wi g tt te caps) := by
  intro pins s σ H Q I h
  rw [eval_ListComp]
  refine comp_run (use := none) N' caps hc hi hg ht he cap hcell hkind hnames hN hcap hs (fun C D fp s2 s4 H2 H4 pl σ' items ys I2 f2 I4 hpl nD newD hDC rv hz qn => ?_) I h
  obtain ⟨m, hn, _⟩ := I4.loc
  exact ⟨m, hn, fun h' sb => ⟨.ref D, _, comp_end I2 f2 I4 hpl nD newD hDC rv hz sb, rfl, qn D nD⟩⟩
end L2
namespace L2
open PySem PySem.Spec PyProof.Rows
theorem SqT.keep {K : PySem.W.Frag} {H H' : Hp} {a : Addr} {xs : List V} (s : Same H H') (h : SqT K H a xs) : SqT K H' a xs := by
  rcases h with (h | ⟨o, h⟩) | h
  · exact .inl (.inl (s _ _ h))
  · exact .inl (.inr ⟨o, s _ _ h⟩)
  · exact .inr h
theorem SqL.keep {K : PySem.W.Frag} {H H' : Hp} {a : Addr} {xs : List V} (s : Same H H') (h : SqL K H a xs) : SqL K H' a xs := s.seq h
mutual
theorem DV.keep {K : PySem.W.Frag} {H H' : Hp} (s : Same H H') : ∀ {v : V} {d : PyData}, DV K H v d → DV K H' v d
  | _, _, .non => .non
  | _, _, .bl b => .bl b
  | _, _, .int i => .int i
  | _, _, .str x => .str x
  | _, _, .lst h q => .lst (h.keep s) (DVs.keep s q)
  | _, _, .tup h q => .tup (h.keep s) (DVs.keep s q)
  | _, _, .dct h => .dct (s _ _ h)
theorem DVs.keep {K : PySem.W.Frag} {H H' : Hp} (s : Same H H') : ∀ {vs : List V} {ds : List PyData}, DVs K H vs ds → DVs K H' vs ds
  | _, _, .nil => .nil
  | _, _, .cons h q => .cons (DV.keep s h) (DVs.keep s q)
end
section
variable {K : PySem.W.Frag} {H : Hp} {v : V} {vs : List V} {d d1 d2 d3 d4 : PyData} {ds : List PyData}
theorem DVs.len : ∀ {vs : List V} {ds : List PyData}, DVs K H vs ds → vs.length = ds.length
  | _, _, .nil => rfl
  | _, _, .cons _ q => by rw [List.length_cons, List.length_cons, DVs.len q]
theorem DVs.nil_of (h : DVs K H vs []) : vs = [] := by cases h; rfl
theorem DVs.cons_of (h : DVs K H vs (d :: ds)) : ∃ x xs, vs = x :: xs ∧ DV K H x d ∧ DVs K H xs ds := by
  cases h with
  | cons h q => exact ⟨_, _, rfl, h, q⟩
theorem DV.tup_of (h : DV K H v (.tuple ds)) : ∃ a xs, v = .ref a ∧ SqT K H a xs ∧ DVs K H xs ds := by
  cases h with
  | tup h q => exact ⟨_, _, rfl, h, q⟩
theorem DVs.one (h : DVs K H vs [d1]) : ∃ x, vs = [x] ∧ DV K H x d1 := by
  cases h with
  | cons h q => cases q; exact ⟨_, rfl, h⟩
theorem DVs.two (h : DVs K H vs [d1, d2]) : ∃ x y, vs = [x, y] ∧ DV K H x d1 ∧ DV K H y d2 := by
  cases h with
  | cons h q =>
    obtain ⟨y, rfl, hy⟩ := q.one
    exact ⟨_, _, rfl, h, hy⟩
theorem DVs.three (h : DVs K H vs [d1, d2, d3]) : ∃ x y z, vs = [x, y, z] ∧ DV K H x d1 ∧ DV K H y d2 ∧ DV K H z d3 := by
  cases h with
  | cons h q =>
    obtain ⟨y, z, rfl, hy, hz⟩ := q.two
    exact ⟨_, _, _, rfl, h, hy, hz⟩
theorem DV.t2 (h : DV K H v (.tuple [d1, d2])) : ∃ a x y, v = .ref a ∧ SqT K H a [x, y] ∧ DV K H x d1 ∧ DV K H y d2 := by
  obtain ⟨a, xs, rfl, ha, q⟩ := h.tup_of
  obtain ⟨x, y, rfl, hx, hy⟩ := q.two
  exact ⟨a, x, y, rfl, ha, hx, hy⟩
theorem DV.t3 (h : DV K H v (.tuple [d1, d2, d3])) : ∃ a x y z, v = .ref a ∧ SqT K H a [x, y, z] ∧ DV K H x d1 ∧ DV K H y d2 ∧ DV K H z d3 := by
  obtain ⟨a, xs, rfl, ha, q⟩ := h.tup_of
  obtain ⟨x, y, z, rfl, hx, hy, hz⟩ := q.three
  exact ⟨a, x, y, z, rfl, ha, hx, hy, hz⟩
theorem DV.int_of {i : Int} (h : DV K H v (.int i)) : v = .int i := by cases h; rfl
theorem DV.str_of {x : Str} (h : DV K H v (.str x)) : v = .str x := by cases h; rfl
theorem DV.bl_of {b : Bool} (h : DV K H v (.bool b)) : v = .bl b := by cases h; rfl
theorem DVs.get : ∀ {vs : List V} {ds : List PyData} {i : Nat} {v : V}, DVs K H vs ds → vs[i]? = some v → ∃ d, ds[i]? = some d ∧ DV K H v d
  | _, _, _, _, .nil, e => by simp at e
  | _, _, 0, _, .cons h _, e => by simp at e; subst e; exact ⟨_, rfl, h⟩
  | _, _, i + 1, v, .cons _ q, e => by
    obtain ⟨d, h1, h2⟩ := DVs.get (i := i) (v := v) q (by simpa using e)
    exact ⟨d, by simpa using h1, h2⟩
end
def tyD : PyData → String
  | .none => "NoneType"
  | .bool _ => "bool"
  | .int _ => "int"
  | .str _ => "str"
  | .list _ => "list"
  | .tuple _ => "tuple"
  | .dict _ => "dict"
section
variable {X : Cx}
theorem call_isiD : CallR X (.builtin "isinstance") (fun xs H Q => ∃ x d c b, xs = [x, .ty c] ∧ DV X.K H x d ∧ bsub (tyD d) c = some b ∧ Q (.bl b) H) := by
  intro pins s σ H xs us Q I r h
  obtain ⟨x, d, c, b, rfl, hd, e, q⟩ := h
  obtain ⟨u, v, rfl, ru, rv⟩ := vals2 r
  cases (show v = Value.type c from rv)
  have e' := kit_b (K := X.K) e
  have fin : ∀ tk, EP X pins σ Q (.bool b) { s with toks := tk } := fun tk => ⟨.bl b, H, I.tok _, rfl, q⟩
  cases hd with
  | non => exact isinst_ok I ru .non e' fin
  | bl b => exact isinst_ok I ru (.bl b) e' fin
  | int i => exact isinst_ok I ru (.int i) e' fin
  | str x => exact isinst_ok I ru (.str x) e' fin
  | lst h _ =>
    cases ru
    obtain ⟨its, rv, ⟨o, n, e1, e2, _⟩, _⟩ := I.list h
    exact PySem.W.kia_one PySem.W.kitx_list I.kIn ⟨o, e1, e2⟩ e' (fun z => nomatch z) fin
  | tup h _ =>
    cases ru
    obtain ⟨its, rv, ⟨o, e1, e2, _⟩, _⟩ := I.tuple h
    exact PySem.W.kia_one PySem.W.kitx_tuple I.kIn ⟨o, e1, e2⟩ e' (fun z => nomatch z) fin
  | dct h => exact isinst_ok I ru (.dK h) e' fin
theorem call_isiT : CallR X (.builtin "isinstance") (fun xs H Q => ∃ x t v c b, xs = [x, v] ∧ TyOf X.K H x t ∧ RelV v c ∧ (∀ u, RelV v u → u = c) ∧ PySem.W.kitOne X.K t c = some b ∧ Q (.bl b) H) := by
  intro pins s σ H xs us Q I r h
  obtain ⟨x, t, v, c, b, rfl, ty, rc, one, e, q⟩ := h
  obtain ⟨u, v', rfl, ru, rv⟩ := vals2 r
  cases one v' rv
  exact isinst_ok I ru ty e fun tk => ⟨.bl b, H, I.tok _, rfl, q⟩
end
def Nx (n : Nat) (Pv : Nat → St → List V → Hp → Prop) (i : Nat) (σ : St) (ys : List V) (H : Hp) : Prop := ∃ m', m' < n - i ∧ (m' = n - (i + 1) ∧ i + 1 ≤ n ∧ Pv (i + 1) σ ys H)
theorem nx {n : Nat} {Pv : Nat → St → List V → Hp → Prop} {i : Nat} {σ : St} {ys : List V} {H : Hp} (hi : i < n) (h : Pv (i + 1) σ ys H) : Nx n Pv i σ ys H := ⟨n - (i + 1), by omega, rfl, hi, h⟩
theorem lt_of_get {α : Type} {xs : List α} {i : Nat} {x : α} (h : xs[i]? = some x) : i < xs.length := (List.getElem?_eq_some_iff.mp h).1
theorem comp_tup {K : PySem.W.Frag} {a : Addr} {xs : List V} {g : TG} {tt : TT} {te : TE} {Q : VK} {σ : St} {H : Hp} (Pv : Nat → St → List V → Hp → Prop) (h0 : Pv 0 σ [] H) (hz : ∀ i σ ys H, i ≤ xs.length → Pv i σ ys H → ys.length ≤ sizeLine ∧ SqT K H a xs)
    (hs : ∀ i x σ ys H, xs[i]? = some x → Pv i σ ys H → g x σ H fun σ2 H2 => tt σ2 H2 fun b H3 => if b = true then te σ2 H3 fun y H4 => Nx xs.length Pv i σ2 (ys ++ [y]) H4 else Nx xs.length Pv i σ2 ys H3)
    (hd : ∀ σ ys H p, Pv xs.length σ ys H → H p = none → Q (.ref p) (upd H p (.lst ys))) :
    tCompB g tt te (Itt K a) σ H Q := by
  refine ⟨fun i m σ ys H => m = xs.length - i ∧ i ≤ xs.length ∧ Pv i σ ys H, ⟨xs.length, by simp, Nat.zero_le _, h0⟩, ?_⟩
  rintro i m σ' ys H ⟨rfl, hi, p⟩
  obtain ⟨z, q⟩ := hz i σ' ys H hi p
  refine ⟨z, ?_⟩
  by_cases hlt : i < xs.length
  · refine .inr ⟨⟨xs, xs[i], q, by simp [hlt]⟩, fun x H' y => ?_⟩
    obtain ⟨rfl, y⟩ := y
    exact hs i x σ' ys _ (y xs q) p
  · have e : i = xs.length := by omega
    subst e
    exact .inl ⟨⟨xs, q, Nat.le_refl _⟩, fun r n => hd σ' ys _ r p n⟩
theorem comp_tup0 {K : PySem.W.Frag} {a : Addr} {xs : List V} {g : TG} {te : TE} {Q : VK} {σ : St} {H : Hp} (Pv : Nat → St → List V → Hp → Prop) (h0 : Pv 0 σ [] H) (hz : ∀ i σ ys H, i ≤ xs.length → Pv i σ ys H → ys.length ≤ sizeLine ∧ SqT K H a xs)
    (hs : ∀ i x σ ys H, xs[i]? = some x → Pv i σ ys H → g x σ H fun σ2 H2 => te σ2 H2 fun y H4 => Nx xs.length Pv i σ2 (ys ++ [y]) H4)
    (hd : ∀ σ ys H p, Pv xs.length σ ys H → H p = none → Q (.ref p) (upd H p (.lst ys))) : tCompB g tYes te (Itt K a) σ H Q :=
  comp_tup Pv h0 hz (fun i x σ ys H hx hp => by
    have := hs i x σ ys H hx hp
    simpa only [tYes, if_true] using this) hd
theorem nocap {caps : List (Option Nat)} {P : Nat → Nat → Prop} (h : caps.all (·.isNone) = true) : ∀ i j, caps[i]? = some (some j) → P i j := fun i j e => by
  have := List.all_eq_true.mp h _ (List.mem_of_getElem? e)
  cases this
end L2
namespace L2
open PySem PySem.Spec PyProof.Rows
theorem RoomB.room {k : Nat} {A : Around} (r : RoomB true k A) : Room k A := ⟨r.hd rfl, r.dp, r.un⟩
structure MC (P : Program) (w : World) (K : PySem.W.Frag) (mg : Str → Option Value) (base : Heap) (k : Nat) (C : Addr) (m : Str) (ps : List Str) (sp : Sp) : Prop where
  ex : ∃ (f : Addr) (fd : FuncData), FnB P w K mg base true k f fd ps sp ∧ Meth K C m f ∧ Binds K fd ps []
  cl : Cls K C
structure MtFn (K : PySem.W.Frag) (C : Addr) (m qual : Str) (st : Stmt) : Prop where
  ex : ∃ (f : Addr) (fd : FuncData), Fun K m qual st f fd ∧ Meth K C m f
  cl : Cls K C
theorem MtFn.mc {P : Program} {w : World} {K : PySem.W.Frag} {mg : Str → Option Value} {base : Heap} {C : Addr} {m qual : Str} {st : Stmt} {N ps : List Str} {k : Nat} {sp : Sp} (T : MtFn K C m qual st) (S : FnScope N ps (defScope st))
    (hb : ∀ (kV doc pm : Value) (an : Option Addr) (cdv ct : Value) (us : List Value), us.length = ps.length → bindArgs (PySem.W.fnOf m qual (defArgs st) (defBody st) (defScope st) .none kV doc pm an cdv ct) ⟨us, []⟩ = pure (ps.zip us))
    (len : ∀ vs H Q E, sp vs H Q E → vs.length = ps.length)
    (hbody : ∀ (f : Addr) (cdv : Value) (A : Around) (outer : List Env) (s : Shared) (H : Hp) (vs : List V) (Q : VK) (E : XK), RoomB true k (A.deeper (envOfC qual (defScope st) s.heap.objs.size f cdv)) → sp vs H Q E →
      ∃ t, PSs (cxB true P w K mg base N qual (defScope st) f cdv A outer s H E).nox (defBody st) t ∧ t { nx := fun _ H' => Q .non H', rt := Q } (start N vs) H) : MC P w K mg base (k + 1) C m ps sp := by
  obtain ⟨f, fd, F, hm⟩ := T.ex
  obtain ⟨oc, od, kV, doc, pm, an, cdv, ct, osl, rfl, l, cd⟩ := id F.ex
  refine ⟨⟨f, _, fnB_of l cd S len fun A outer s H vs Q E hr h => ?_, hm, F.binds hb⟩, T.cl⟩
  obtain ⟨t, h1, h2⟩ := hbody f cdv A outer s H vs Q E hr h
  exact ⟨t, h1.nox, h2⟩
structure MkC (P : Program) (w : World) (K : PySem.W.Frag) (mg : Str → Option Value) (base : Heap) (k : Nat) (x : Str) (C : Addr) (ps : List Str) (sp : Sp) : Prop where
  ex : ∃ (f : Addr) (fd : FuncData), FnB P w K mg base true k f fd ps sp ∧ Mk K C f ∧ Binds K fd ps []
  mg : mg x = some (.ref C)
structure MkFn (K : PySem.W.Frag) (mg : Str → Option Value) (x : Str) (C : Addr) (qual : Str) (st : Stmt) : Prop where
  ex : ∃ (f : Addr) (fd : FuncData), Fun K "__init__" qual st f fd ∧ Mk K C f
  mg : mg x = some (.ref C)
theorem MkFn.mkc {P : Program} {w : World} {K : PySem.W.Frag} {mg : Str → Option Value} {base : Heap} {x : Str} {C : Addr} {qual : Str} {st : Stmt} {N ps : List Str} {k : Nat} {sp : Sp} (T : MkFn K mg x C qual st) (S : FnScope N ps (defScope st))
    (hb : ∀ (kV doc pm : Value) (an : Option Addr) (cdv ct : Value) (us : List Value), us.length = ps.length → bindArgs (PySem.W.fnOf "__init__" qual (defArgs st) (defBody st) (defScope st) .none kV doc pm an cdv ct) ⟨us, []⟩ = pure (ps.zip us))
    (len : ∀ vs H Q E, sp vs H Q E → vs.length = ps.length)
    (hbody : ∀ (f : Addr) (cdv : Value) (A : Around) (outer : List Env) (s : Shared) (H : Hp) (vs : List V) (Q : VK) (E : XK), RoomB true k (A.deeper (envOfC qual (defScope st) s.heap.objs.size f cdv)) → sp vs H Q E →
      ∃ t, PSs (cxB true P w K mg base N qual (defScope st) f cdv A outer s H E).nox (defBody st) t ∧ t { nx := fun _ H' => Q .non H', rt := Q } (start N vs) H) : MkC P w K mg base (k + 1) x C ps sp := by
  obtain ⟨f, fd, F, hm⟩ := T.ex
  obtain ⟨oc, od, kV, doc, pm, an, cdv, ct, osl, rfl, l, cd⟩ := id F.ex
  refine ⟨⟨f, _, fnB_of l cd S len fun A outer s H vs Q E hr h => ?_, hm, F.binds hb⟩, T.mg⟩
  obtain ⟨t, h1, h2⟩ := hbody f cdv A outer s H vs Q E hr h
  exact ⟨t, h1.nox, h2⟩
section
variable {X : Cx} {k : Nat} {C : Addr} {ps : List Str} {sp : Sp} {x m : Str} {p pos apos : Pos} {e o : Expr} {es : List Expr} {ta : TE} {t : TA}
def tMB (P : Program) (w : World) (K : PySem.W.Frag) (mg : Str → Option Value) (base : Heap) (k : Nat) (m : Str) (ta : TE) (t : TA) : TE := fun σ H Q => ta σ H fun x H1 => ∃ a C dx fs ps sp, x = .ref a ∧ H1 a = some (.ins C dx fs) ∧ fs.lookup m = none ∧
  MC P w K mg base k C m ps sp ∧ t σ H1 fun vs H2 => sp (x :: vs) H2 Q E0
theorem pe_mB0 {pl : Sem Bool} (he : PE X o ta) (hr : RoomB true k X.A)
    (ht : eval (.Call (.Attribute o m apos) [] [] pos) X.env = (do
      let ov ← eval o X.env
      standAt apos.atName
      let (f, first) ← holding [ov] (getMethod ov m pl)
      callWith pos f first (backTo pos (starEach [] X.env)) (backToKw pos (keywordEach [] X.env))) := by rfl) :
    PE X (.Call (.Attribute o m apos) [] [] pos) (tMB X.prog X.w X.K X.mg X.base k m ta tNil) := by
  intro pins s σ H Q I h
  refine PySem.W.methodCall_KW (pl := pl) (thn (he pins s σ H _ I h) fun u s1 ⟨x, H1, I1, rx, a, C, dx, fs, ps, sp, ex, ea, l, M, q⟩ => ?_) ht
  subst ex
  obtain rfl : u = Value.ref a := rx
  obtain ⟨f, fd, F, hm, hb⟩ := M.ex
  refine getmeth_ok I1 ea M.cl hm l ?_
  exact PySem.W.callWith_K0 (first := [.ref a]) I1.kIn hm.kp (run_fn (us := [.ref a]) (vs := [.ref a]) (dvs := []) (ds := []) (E := E0) F.ok hr.room hb .nil pass01 I1 (.cons rfl .nil) q)
theorem pe_mkB (M : MkC X.prog X.w X.K X.mg X.base k x C ps sp) (hr : RoomB true (k + 1) X.A) (ha : PA X (e :: es) t) (hg : Gl X x := by rfl) (hdb : (x == ("__debug__" : Str)) = false := by decide)
    (he : starEach (e :: es) X.env = (false, eval e X.env) :: starEach es X.env := by rfl) (hpl : (backTo pos (starEach es X.env)).any (·.1) = false := by rfl) :
    PE X (.Call (.Name x p) (e :: es) [] pos) (tMake C sp [] E0 t) := by
  obtain ⟨f, fd, F, hm, hb⟩ := M.ex
  exact pe_make hm F.ok hr.room hg M.mg hb .nil pass01 ha hdb he hpl
theorem pe_fldB {f : Str} (he : PE X e ta) (hb : attributeBase e f X.env (eval e X.env) = eval e X.env := by rfl) : PE X (.Attribute e f pos) (tFld X.K ta f) := pe_fld he hb
theorem ps_fldB {f : Str} {pos' : Pos} {value : Expr} {tv : TE} (ha : PE X o ta) (hv : PE X value tv) (hs : swapsWith value (some (.Attribute o f pos')) pos.line X.env = pure false := by rfl) : PS X (.Assign [.Attribute o f pos'] value pos) (sFld X.K ta tv f) := ps_fld ha hv hs
end
end L2
namespace L2
open PySem PySem.Spec PyProof.Rows
end L2
namespace Fr
theorem num_den_le {r : Rat} {t b : Int} (h : b ≠ 0) (e : r = Rat.divInt t b) : r.num.natAbs ≤ t.natAbs ∧ r.den ≤ b.natAbs := by
  subst e
  have h1 := lt_abs t b h
  have h2 := lb_abs (t := t) h
  rw [lt_num h] at h1
  rw [lb_den h, Int.natAbs_natCast] at h2
  exact ⟨h1, h2⟩
structure Bd (k : Nat) (q : Rat) : Prop where
  n : q.num.natAbs < 2 ^ k
  d : q.den < 2 ^ k
theorem pow_le {m n : Nat} (h : m ≤ n) : 2 ^ m ≤ 2 ^ n := Nat.pow_le_pow_right (by decide) h
theorem Bd.of {n : Nat} {t b : Int} (b0 : b ≠ 0) (ht : t.natAbs < 2 ^ n) (hb : b.natAbs < 2 ^ n) : Bd n (Rat.divInt t b) := by
  obtain ⟨h1, h2⟩ := num_den_le b0 (rfl : Rat.divInt t b = Rat.divInt t b)
  exact ⟨by omega, by omega⟩
end Fr
namespace Op
open Fr
inductive Pc where
  | gap (d : Rat)
  | glass (p : Rat)
  | stop (lo hi : Rat)
abbrev Ray := Rat × Rat
def Pc.lets : Pc → Ray → Bool
  | .stop lo hi, r => !decide (r.1 < lo) && !decide (hi < r.1)
  | _, _ => true
def Pc.ok : Pc → Prop
  | .stop lo hi => ¬ hi < lo
  | _ => True
def Pc.bd (m : Nat) : Pc → Prop
  | .gap d => Bd m d
  | .glass p => Bd m p
  | .stop lo hi => Bd m lo ∧ Bd m hi
end Op
namespace Lib
open PySem L2 Fr Op
def frD (q : Rat) : PyData := .tuple [.int q.num, .int (q.den : Int)]
def pcD : Pc → PyData
  | .gap d => .tuple [.str "gap", frD d]
  | .glass p => .tuple [.str "glass", frD p]
  | .stop lo hi => .tuple [.str "stop", frD lo, frD hi]
section
variable {K : PySem.W.Frag} {H : Hp} {v : V}
theorem _root_.L2.DV.fr {q : Rat} (h : DV K H v (frD q)) : ∃ a, v = .ref a ∧ SqT K H a [.int q.num, .int (q.den : Int)] := by
  obtain ⟨a, x, y, rfl, ha, hx, hy⟩ := DV.t2 h
  rw [hx.int_of, hy.int_of] at ha
  exact ⟨a, rfl, ha⟩
theorem dv_fr {q : Rat} {a : Addr} (h : SqT K H a [.int q.num, .int (q.den : Int)]) : DV K H (.ref a) (frD q) := .tup h (.cons (.int _) (.cons (.int _) .nil))
theorem dv_low {t b : Int} {p : Addr} (b0 : b ≠ 0) : DV K (upd H p (.tup [.int (Fr.lt t b), .int (Fr.lb t b)])) (.ref p) (frD (Rat.divInt t b)) := by
  rw [frO_of b0]
  exact dv_fr (SqT.of upd_same)
end
theorem _root_.Fr.Bd.sm {n : Nat} {q : Rat} (h : Bd n q) (hn : n ≤ 4000) : Sm q := ⟨Nat.lt_of_lt_of_le h.n (by unfold lim2; exact pow_le hn), Nat.lt_of_lt_of_le h.d (by unfold lim2; exact pow_le hn)⟩
structure Flat (n : Nat) (d : PyData) : Prop where
  c : d.canLay0 = true
  d : d.depth ≤ n
theorem Flat.sh {n : Nat} {d : PyData} (h : Flat n d) (hn : n ≤ 64) : SeqAt.shaped d = true := by
  unfold SeqAt.shaped
  rw [h.c, Bool.true_and]
  exact decide_eq_true (Nat.le_trans h.d hn)
theorem flat_all {n : Nat} : ∀ {ds : List PyData}, (∀ d ∈ ds, Flat n d) → PyData.canLayAll0 ds = true ∧ PyData.depthAll ds ≤ n
  | [], _ => ⟨rfl, Nat.zero_le _⟩
  | d :: ds, h => by
    obtain ⟨h1, h2⟩ := flat_all (fun x hx => h x (List.mem_cons_of_mem _ hx))
    have h3 := h d List.mem_cons_self
    refine ⟨?_, ?_⟩
    · rw [PyData.canLayAll0, h3.c, h1]; rfl
    · rw [PyData.depthAll]; exact Nat.max_le.mpr ⟨h3.d, h2⟩
theorem flat_tup {n : Nat} {ds : List PyData} (h : ∀ d ∈ ds, Flat n d) : Flat (n + 1) (.tuple ds) := ⟨(flat_all h).1, by rw [PyData.depth]; exact Nat.succ_le_succ (flat_all h).2⟩
theorem flat_fr (q : Rat) : Flat 1 (frD q) := ⟨rfl, by show 1 ≤ 1; exact Nat.le_refl _⟩
theorem flat_pc : ∀ p : Pc, Flat 2 (pcD p)
  | .gap d => flat_tup fun x hx => by
    simp only [List.mem_cons, List.not_mem_nil, or_false] at hx
    rcases hx with rfl | rfl
    · exact ⟨by decide +kernel, by decide⟩
    · exact flat_fr _
  | .glass d => flat_tup fun x hx => by
    simp only [List.mem_cons, List.not_mem_nil, or_false] at hx
    rcases hx with rfl | rfl
    · exact ⟨by decide +kernel, by decide⟩
    · exact flat_fr _
  | .stop lo hi => flat_tup fun x hx => by
    simp only [List.mem_cons, List.not_mem_nil, or_false] at hx
    rcases hx with rfl | rfl | rfl
    · exact ⟨by decide +kernel, by decide⟩
    · exact flat_fr _
    · exact flat_fr _
section
variable {K : PySem.W.Frag} {H : Hp} {x y : V} {d : PyData} {Q : VK}
theorem eq_same {n : Nat} (hx : DV K H x d) (hy : DV K H y d) (f : Flat n d) (k : Q (.bl true) H) (hn : n ≤ 64 := by decide) : rEqD K x y H Q :=
  ⟨d, d, hx, hy, f.sh hn, f.sh hn, by rw [SeqAt.eqv_refl d f.c]; exact k⟩
theorem ne_same {n : Nat} (hx : DV K H x d) (hy : DV K H y d) (f : Flat n d) (k : Q (.bl false) H) (hn : n ≤ 64 := by decide) : rNeD K x y H Q :=
  ⟨d, d, hx, hy, f.sh hn, f.sh hn, by rw [SeqAt.eqv_refl d f.c]; exact k⟩
theorem ne_frD {p q : Rat} (hx : DV K H x (frD p)) (hy : DV K H y (frD q)) (k : Q (.bl (!decide (p = q))) H) : rNeD K x y H Q :=
  ⟨_, _, hx, hy, (flat_fr p).sh (by decide), (flat_fr q).sh (by decide), by unfold frD; rw [eqv_fr]; exact k⟩
end
mutual
def noL : PyData → Bool
  | .list _ => false
  | .dict _ => false
  | .tuple ds => noLs ds
  | .none => true
  | .bool _ => true
  | .int _ => true
  | .str _ => true
def noLs : List PyData → Bool
  | [] => true
  | d :: ds => noL d && noLs ds
end
def SameT (H H' : Hp) : Prop := ∀ b xs, (H b = some (.tup xs) → H' b = some (.tup xs)) ∧ ∀ o, H b = some (.frz o (.tup xs)) → H' b = some (.frz o (.tup xs))
mutual
theorem dv_keepT {K : PySem.W.Frag} {H H' : Hp} (s : SameT H H') : ∀ {v : V} {d : PyData}, noL d = true → DV K H v d → DV K H' v d
  | _, _, _, .non => .non
  | _, _, _, .bl b => .bl b
  | _, _, _, .int i => .int i
  | _, _, _, .str x => .str x
  | _, _, n, .lst h q => nomatch n
  | _, _, n, .tup h q => .tup (by
      rcases h with (h | ⟨o, h⟩) | h
      · exact .inl (.inl ((s _ _).1 h))
      · exact .inl (.inr ⟨o, (s _ _).2 o h⟩)
      · exact .inr h) (dvs_keepT s n q)
  | _, _, n, .dct h => nomatch n
theorem dvs_keepT {K : PySem.W.Frag} {H H' : Hp} (s : SameT H H') : ∀ {vs : List V} {ds : List PyData}, noLs ds = true → DVs K H vs ds → DVs K H' vs ds
  | _, _, _, .nil => .nil
  | _, _, n, .cons h q => .cons (dv_keepT s (by rw [noLs] at n; exact (Bool.and_eq_true_iff.mp n).1) h) (dvs_keepT s (by rw [noLs] at n; exact (Bool.and_eq_true_iff.mp n).2) q)
end
def PR (K : PySem.W.Frag) (R : List PyData → PyData → Prop) : Sp := fun vs H Q _ => ∃ ds d, DVs K H vs ds ∧ R ds d ∧ ∀ v H', Same H H' → DV K H' v d → Q v H'
def RLess : List PyData → PyData → Prop := fun ds d => ∃ p q, ds = [frD p, frD q] ∧ Sm p ∧ Sm q ∧ d = .bool (decide (p < q))
theorem DV.upd2 {K : PySem.W.Frag} {H : Hp} {r : Addr} {x y : V} {d1 d2 : PyData} (hr : H r = none) (hx : DV K H x d1) (hy : DV K H y d2) : DV K (upd H r (.tup [x, y])) (.ref r) (.tuple [d1, d2]) :=
  .tup (SqT.of upd_same) (.cons (hx.keep (same_new hr _)) (.cons (hy.keep (same_new hr _)) .nil))
theorem DV.upd3 {K : PySem.W.Frag} {H : Hp} {r : Addr} {x y z : V} {d1 d2 d3 : PyData} (hr : H r = none) (hx : DV K H x d1) (hy : DV K H y d2) (hz : DV K H z d3) : DV K (upd H r (.tup [x, y, z])) (.ref r) (.tuple [d1, d2, d3]) :=
  .tup (SqT.of upd_same) (.cons (hx.keep (same_new hr _)) (.cons (hy.keep (same_new hr _)) (.cons (hz.keep (same_new hr _)) .nil)))
def ratD : PyData → Bool
  | .tuple [.int t, .int b] => decide (1 ≤ b) && decide (Fr.gcd t b = 1)
  | _ => false
theorem ratD_fr (q : Rat) : ratD (frD q) = true := by
  show (decide (1 ≤ (q.den : Int)) && decide (Fr.gcd q.num (q.den : Int) = 1)) = true
  rw [decide_eq_true (by have := denp q; omega), decide_eq_true (frO_gcd q)]
  rfl
theorem ratD_of {d : PyData} (h : ratD d = true) : ∃ q : Rat, d = frD q := by
  unfold ratD at h
  split at h
  · rename_i t b
    obtain ⟨h1, h2⟩ := Bool.and_eq_true_iff.mp h
    obtain ⟨q, rfl, rfl⟩ := rat_of (of_decide_eq_true h1) (of_decide_eq_true h2)
    exact ⟨q, rfl⟩
  · cases h
def isIntD : PyData → Bool
  | .int _ => true
  | _ => false
def isTupD : PyData → Bool
  | .tuple _ => true
  | _ => false
theorem isInt_of {d : PyData} (h : isIntD d = true) : ∃ i, d = .int i := by
  cases d with
  | int i => exact ⟨i, rfl⟩
  | _ => cases h
theorem isTup_of {d : PyData} (h : isTupD d = true) : ∃ ds, d = .tuple ds := by
  cases d with
  | tuple ds => exact ⟨ds, rfl⟩
  | _ => cases h
theorem isInt_b (d : PyData) : ∃ b c, bsub (tyD d) "int" = some b ∧ bsub (tyD d) "bool" = some c ∧ (b && !c) = isIntD d := by
  cases d with
  | none => exact ⟨false, false, by show bsub "NoneType" "int" = _; decide +kernel, by show bsub "NoneType" "bool" = _; decide +kernel, rfl⟩
  | bool b => exact ⟨true, true, by show bsub "bool" "int" = _; decide +kernel, by show bsub "bool" "bool" = _; decide +kernel, rfl⟩
  | int i => exact ⟨true, false, by show bsub "int" "int" = _; decide +kernel, by show bsub "int" "bool" = _; decide +kernel, rfl⟩
  | str x => exact ⟨false, false, by show bsub "str" "int" = _; decide +kernel, by show bsub "str" "bool" = _; decide +kernel, rfl⟩
  | list xs => exact ⟨false, false, by show bsub "list" "int" = _; decide +kernel, by show bsub "list" "bool" = _; decide +kernel, rfl⟩
  | tuple xs => exact ⟨false, false, by show bsub "tuple" "int" = _; decide +kernel, by show bsub "tuple" "bool" = _; decide +kernel, rfl⟩
  | dict xs => exact ⟨false, false, by show bsub "dict" "int" = _; decide +kernel, by show bsub "dict" "bool" = _; decide +kernel, rfl⟩
theorem isTup_b (d : PyData) : bsub (tyD d) "tuple" = some (isTupD d) := by
  cases d with
  | none => show bsub "NoneType" "tuple" = some false; decide +kernel
  | bool b => show bsub "bool" "tuple" = some false; decide +kernel
  | int i => show bsub "int" "tuple" = some false; decide +kernel
  | str x => show bsub "str" "tuple" = some false; decide +kernel
  | list xs => show bsub "list" "tuple" = some false; decide +kernel
  | tuple xs => show bsub "tuple" "tuple" = some true; decide +kernel
  | dict xs => show bsub "dict" "tuple" = some false; decide +kernel
def isStrD : PyData → Bool
  | .str _ => true
  | _ => false
theorem isStr_of {d : PyData} (h : isStrD d = true) : ∃ x, d = .str x := by
  cases d with
  | str i => exact ⟨i, rfl⟩
  | _ => cases h
theorem isStr_b (d : PyData) : bsub (tyD d) "str" = some (isStrD d) := by
  cases d with
  | none => show bsub "NoneType" "str" = some false; decide +kernel
  | bool b => show bsub "bool" "str" = some false; decide +kernel
  | int i => show bsub "int" "str" = some false; decide +kernel
  | str x => show bsub "str" "str" = some true; decide +kernel
  | list xs => show bsub "list" "str" = some false; decide +kernel
  | tuple xs => show bsub "tuple" "str" = some false; decide +kernel
  | dict xs => show bsub "dict" "str" = some false; decide +kernel
theorem ratD_no {d : PyData} (h : isTupD d = false) : ratD d = false := by
  cases d with
  | tuple ds => cases h
  | _ => rfl
theorem ratD_len {ds : List PyData} (h : ¬ ds.length = 2) : ratD (.tuple ds) = false := by
  unfold ratD
  split
  · rename_i t b e
    cases e
    exact absurd rfl h
  · rfl
theorem ratD_two {d1 d2 : PyData} (h : isIntD d1 = false ∨ isIntD d2 = false) : ratD (.tuple [d1, d2]) = false := by
  unfold ratD
  split
  · rename_i t b e
    cases e
    rcases h with h | h <;> cases h
  · rfl
def spW (K : PySem.W.Frag) : Sp := fun vs H Q _ => ∃ v d, vs = [v] ∧ DV K H v d ∧ Q (.bl (isIntD d)) H
def spRat (K : PySem.W.Frag) : Sp := fun vs H Q _ => ∃ v d, vs = [v] ∧ DV K H v d ∧ Q (.bl (ratD d)) H
end Lib
namespace Lib
open PySem L2 Fr Op
theorem iteT' {b : Bool} {A B : Prop} (hb : b = true) (h : A) : if b = true then A else B := by rw [if_pos hb]; exact h
theorem iteF' {b : Bool} {A B : Prop} (hb : b = false) (h : B) : if b = true then A else B := by rw [if_neg (by rw [hb]; exact Bool.false_ne_true)]; exact h
theorem sIx1 (n d : Nat) : HT.sIx n d (some 1) = min 1 n := HT.sIx_nat n d 1
theorem cut1 (xs : List V) : cutV xs (some 1) none = xs.drop 1 := by
  unfold cutV
  rw [sIx1, HT.sIx_none]
  cases xs with
  | nil => rfl
  | cons x r =>
    rw [show min 1 (x :: r).length = 1 by simp only [List.length_cons]; omega]
    exact List.take_of_length_le (by simp)
theorem decS (x y : Str) : decide (V.str x = V.str y) = decide (x = y) := by
  by_cases h : x = y
  · subst h; simp
  · have : ¬ V.str x = V.str y := fun z => h (V.str.inj z)
    rw [decide_eq_false h, decide_eq_false this]
def stopD : List PyData → Bool
  | [.tuple [.int a, .int b], .tuple [.int c, .int d]] => !decide (c * b < a * d)
  | _ => false
def pieceD : PyData → Bool
  | .tuple (.str w :: d1 :: ds) => (d1 :: ds).all ratD && (if w = "stop" then stopD (d1 :: ds) else (decide (w = "gap") || decide (w = "glass")) && ds.isEmpty)
  | _ => false
def SmP (d : PyData) : Prop := ∀ ds, d = .tuple ds → ds.length ≤ 1000 ∧ ∀ q, frD q ∈ ds → Sm q
def spPiece (K : PySem.W.Frag) : Sp := fun vs H Q _ => ∃ v d, vs = [v] ∧ DV K H v d ∧ SmP d ∧ ∀ H', Same H H' → Q (.bl (pieceD d)) H'
theorem frD_inj {p q : Rat} (h : frD p = frD q) : p = q := by
  unfold frD at h
  injection h with h
  injection h with h1 h2
  injection h1 with h1
  injection h2 with h2 _
  injection h2 with h2
  exact Rat.ext h1 (Int.ofNat.inj h2)
theorem stopD_fr (lo hi : Rat) : stopD [frD lo, frD hi] = !decide (hi < lo) := by
  show (!decide (hi.num * (lo.den : Int) < lo.num * (hi.den : Int))) = _
  rw [decide_eq_decide.mpr (Fr.lt_rat hi lo)]
theorem pieceD_pc : ∀ {p : Pc}, p.ok → pieceD (pcD p) = true
  | .gap d, _ => by
    show ([frD d].all ratD && (if ("gap" : Str) = "stop" then _ else _)) = true
    rw [List.all_cons, ratD_fr, if_neg (by decide)]
    rfl
  | .glass d, _ => by
    show ([frD d].all ratD && (if ("glass" : Str) = "stop" then _ else _)) = true
    rw [List.all_cons, ratD_fr, if_neg (by decide)]
    rfl
  | .stop lo hi, h => by
    show ([frD lo, frD hi].all ratD && (if ("stop" : Str) = "stop" then stopD [frD lo, frD hi] else _)) = true
    rw [List.all_cons, List.all_cons, ratD_fr, ratD_fr, if_pos rfl, stopD_fr, decide_eq_false h]
    rfl
theorem smP_pc {m : Nat} (hm : m ≤ 4000) : ∀ {p : Pc}, p.bd m → SmP (pcD p)
  | .gap d, b => fun ds e => by
    cases e
    refine ⟨by simp, fun q hq => ?_⟩
    simp only [List.mem_cons, List.not_mem_nil, or_false] at hq
    rcases hq with hq | hq
    · cases hq
    · rw [frD_inj hq]; exact Bd.sm b hm
  | .glass d, b => fun ds e => by
    cases e
    refine ⟨by simp, fun q hq => ?_⟩
    simp only [List.mem_cons, List.not_mem_nil, or_false] at hq
    rcases hq with hq | hq
    · cases hq
    · rw [frD_inj hq]; exact Bd.sm b hm
  | .stop lo hi, b => fun ds e => by
    cases e
    refine ⟨by simp, fun q hq => ?_⟩
    simp only [List.mem_cons, List.not_mem_nil, or_false] at hq
    rcases hq with hq | hq | hq
    · cases hq
    · rw [frD_inj hq]; exact Bd.sm b.1 hm
    · rw [frD_inj hq]; exact Bd.sm b.2 hm
inductive ObAt (K : PySem.W.Frag) (CG CL CS : Addr) (H : Hp) : V → Pc → Prop
  | gap {a dx : Addr} {x : V} {d : Rat} : H a = some (.ins CG dx [("length", x)]) → DV K H x (frD d) → ObAt K CG CL CS H (.ref a) (.gap d)
  | glass {a dx : Addr} {x : V} {d : Rat} : H a = some (.ins CL dx [("strength", x)]) → DV K H x (frD d) → ObAt K CG CL CS H (.ref a) (.glass d)
  | stop {a dx : Addr} {x y : V} {lo hi : Rat} : H a = some (.ins CS dx [("low", x), ("high", y)]) → DV K H x (frD lo) → DV K H y (frD hi) → ObAt K CG CL CS H (.ref a) (.stop lo hi)
theorem ObAt.keep {K : PySem.W.Frag} {CG CL CS : Addr} {H H' : Hp} (s : Same H H') : ∀ {v : V} {p : Pc}, ObAt K CG CL CS H v p → ObAt K CG CL CS H' v p
  | _, _, .gap h x => .gap (s _ _ h) (x.keep s)
  | _, _, .glass h x => .glass (s _ _ h) (x.keep s)
  | _, _, .stop h x y => .stop (s _ _ h) (x.keep s) (y.keep s)
def spInit1 (C : Addr) (f : Str) : Sp := fun vs H Q _ => ∃ a dx x, vs = [.ref a, x] ∧ H a = some (.ins C dx []) ∧ Q .non (upd H a (.ins C dx [(f, x)]))
def spInit2 (C : Addr) (f g : Str) : Sp := fun vs H Q _ => ∃ a dx x y, vs = [.ref a, x, y] ∧ H a = some (.ins C dx []) ∧ Q .non (upd H a (.ins C dx [(f, x), (g, y)]))
def isGap : Pc → Prop
  | .gap _ => True
  | _ => False
def isGlass : Pc → Prop
  | .glass _ => True
  | _ => False
def isStop : Pc → Prop
  | .stop _ _ => True
  | _ => False
def spPc (K : PySem.W.Frag) (CG CL CS : Addr) : Sp := fun vs H Q _ => ∃ v p, vs = [v] ∧ DV K H v (pcD p) ∧ ∀ a H', Same H H' → ObAt K CG CL CS H' (.ref a) p → Q (.ref a) H'
end Lib
namespace Lib
open PySem L2 Fr Op
theorem cutV_le (xs : List V) (lo hi : Nat) : (cutV xs (some (lo : Int)) (some (hi : Int))).length ≤ hi - lo := by
  unfold cutV
  rw [HT.sIx_nat, HT.sIx_nat, List.length_take]
  omega
theorem cutV_le0 (xs : List V) (hi : Nat) : (cutV xs none (some (hi : Int))).length ≤ hi := by
  unfold cutV
  rw [HT.sIx_nat, HT.sIx_none, List.length_take]
  omega
end Lib
namespace Lib
open PySem L2 Fr Op
theorem in_words (z : Str) : (if false = true then !inV (.str z) [.str "gap", .str "glass"] else inV (.str z) [.str "gap", .str "glass"]) = (decide (z = "gap") || decide (z = "glass")) := by
  rw [if_neg Bool.false_ne_true]
  unfold inV
  simp only [List.any_cons, List.any_nil, Bool.or_false]
  have h : ∀ w : Str, eqV (.str w) (.str z) = decide (z = w) := fun w => by
    show decide (w = z) = decide (z = w)
    exact decide_eq_decide.mpr ⟨Eq.symm, Eq.symm⟩
  rw [h, h]
end Lib
namespace Lib
open PySem L2 Fr Op
theorem atI0 {x : V} {xs : List V} : atI (x :: xs) 0 = some x := atI_nat (j := 0) rfl
theorem atI1 {x y : V} {xs : List V} : atI (x :: y :: xs) 1 = some y := atI_nat (j := 1) rfl
theorem atI2 {x y z : V} {xs : List V} : atI (x :: y :: z :: xs) 2 = some z := atI_nat (j := 2) rfl
end Lib
namespace Op
open Fr
end Op
namespace Lib
open PySem L2 Fr Op
end Lib
namespace Op
open Fr
end Op
namespace Lib
open PySem L2 Fr Op
end Lib
namespace Lib
open PySem L2 Fr Op
end Lib
namespace Op
open Fr
end Op
namespace Lib
open PySem L2 Fr Op
end Lib
namespace Lib
open PySem L2 Fr Op
structure DrA (H : Hp) (d c : Addr) (L : List V) : Prop where
  d : ∃ a n : Int, 0 ≤ n ∧ H d = some (.lst [.int a, .ref c, .int n])
  c : H c = some (.lst L)
  i : ∀ x ∈ L, ∃ z : Int, x = .int z
  l : 0 < L.length
  m : L.length ≤ 100
def SD (d : Addr) (H H' : Hp) : Prop := ∀ b o, b ≠ d → H b = some o → H' b = some o
theorem SD.refl (d : Addr) (H : Hp) : SD d H H := fun _ _ _ h => h
theorem SD.trans {d : Addr} {H H1 H2 : Hp} (a : SD d H H1) (b : SD d H1 H2) : SD d H H2 := fun c o n h => b c o n (a c o n h)
theorem _root_.L2.Same.sd {H H' : Hp} (s : Same H H') (d : Addr) : SD d H H' := fun b o _ h => s b o h
theorem SD.t {d : Addr} {H H' : Hp} {xs : List V} (s : SD d H H') (h : H d = some (.lst xs)) : SameT H H' := fun b ys => ⟨fun e => s b _ (fun z => by rw [z, h] at e; cases e) e, fun o e => s b _ (fun z => by rw [z, h] at e; cases e) e⟩
theorem DrA.keep {H H' : Hp} {d c : Addr} {L : List V} (h : DrA H d c L) (s : Same H H') : DrA H' d c L := by
  obtain ⟨a, n, h0, h1⟩ := h.d
  exact ⟨⟨a, n, h0, s _ _ h1⟩, s _ _ h.c, h.i, h.l, h.m⟩
theorem DrA.ne {H : Hp} {d c : Addr} {L : List V} (h : DrA H d c L) : c ≠ d := fun e => by
  obtain ⟨a, n, h0, h1⟩ := h.d
  have h2 := h.c
  rw [e, h1] at h2
  cases h2
  obtain ⟨z, e⟩ := h.i (.ref c) (by simp)
  cases e
theorem DrA.t {H H' : Hp} {d c : Addr} {L : List V} (h : DrA H d c L) (s : SD d H H') : SameT H H' := by
  obtain ⟨a, n, h0, h1⟩ := h.d
  exact s.t h1
theorem DrA.dv {K : PySem.W.Frag} {H H' : Hp} {d c : Addr} {L : List V} {v : V} {x : PyData} (h : DrA H d c L) (s : SD d H H') (hx : DV K H v x) (n : noL x = true := by rfl) : DV K H' v x := dv_keepT (h.t s) n hx
theorem sd_upd {H : Hp} {d : Addr} {o : HO} : SD d H (upd H d o) := fun b u n h => by rw [upd_ne n]; exact h
def spDraw : Sp := fun vs H Q _ => ∃ (d c : Addr) (L : List V) (m : Int), vs = [.ref d, .int m] ∧ DrA H d c L ∧ 0 < m ∧ ∀ (x : Int) H', 0 ≤ x → x < m → DrA H' d c L → SD d H H' → Q (.int x) H'
def spDrawn (K : PySem.W.Frag) : Sp := fun vs H Q _ => ∃ (a : Addr) (ns : List Int) (st : Int), vs = [.ref a, .int st] ∧ SqL K H a (ns.map V.int) ∧ ∀ d c L H', Same H H' → H d = none → DrA H' d c L → Q (.ref d) H'
def spCell (K : PySem.W.Frag) : Sp := fun vs H Q _ => ∃ (a : Addr) (ns : List Int) (k : Int), vs = [.ref a, .int k] ∧ SqL K H a (ns.map V.int) ∧ 0 ≤ k ∧ ∀ z : Int, Q (.int z) H
def spLowP : Sp := fun vs H Q _ => ∃ t b : Int, vs = [.int t, .int b] ∧ 0 < b ∧ b.natAbs < lim ∧ ∀ p, H p = none → Q (.ref p) (upd H p (.tup [.int (Fr.lt t b), .int (Fr.lb t b)]))
def spDPart (K : PySem.W.Frag) : Sp := fun vs H Q _ => ∃ (d c : Addr) (L : List V) (far : Bool), vs = [.ref d, .bl far] ∧ DrA H d c L ∧ ∀ v H' q, DrA H' d c L → SD d H H' → DV K H' v (frD q) → Bd 50 q → Q v H'
def spDPiece (K : PySem.W.Frag) : Sp := fun vs H Q _ => ∃ (d c : Addr) (L : List V) (far : Bool), vs = [.ref d, .bl far] ∧ DrA H d c L ∧ ∀ v H' p, DrA H' d c L → SD d H H' → DV K H' v (pcD p) → p.ok → p.bd 50 → Q v H'
end Lib
namespace Lib
open PySem L2 Fr Op
def spTold (K : PySem.W.Frag) (CG CL CS : Addr) (C : Pc → Prop) : Sp := fun vs H Q _ => ∃ (o : V) (p : Pc), vs = [o] ∧ C p ∧ ObAt K CG CL CS H o p ∧ ∀ v H', Same H H' → DV K H' v (pcD p) → Q v H'
end Lib
namespace Lib
open PySem L2 Fr Op
end Lib
namespace Lib
open PySem L2 Fr Op
end Lib
namespace Lib
open PySem L2 Fr Op
theorem by1 {α : Type} {p : List α → Prop} (h : ∀ a, p [a]) : ∀ us : List α, us.length = 1 → p us
  | [_], _ => h _
theorem by2 {α : Type} {p : List α → Prop} (h : ∀ a b, p [a, b]) : ∀ us : List α, us.length = 2 → p us
  | [_, _], _ => h _ _
theorem by3 {α : Type} {p : List α → Prop} (h : ∀ a b c, p [a, b, c]) : ∀ us : List α, us.length = 3 → p us
  | [_, _, _], _ => h _ _ _
end Lib
namespace Lib
open PySem L2 Fr Op
end Lib
namespace Lib
open PySem L2 Fr Op
end Lib
namespace Lib
open PySem L2 Fr Op
end Lib
namespace Lib
open PySem L2 Fr Op
end Lib
namespace Lib
open PySem L2 Fr Op
end Lib
namespace Lib
open PySem L2 Fr Op
end Lib
namespace Lib
open PySem L2 Fr Op
end Lib
namespace Lib
open PySem L2 Fr Op
end Lib
namespace Lib
open PySem L2 Fr Op
end Lib
namespace Lib
open PySem L2 Fr Op
end Lib
namespace Lib
open PySem L2 Fr Op
end Lib
namespace Lib
open PySem L2 Fr Op
end Lib
namespace Op
open Fr
end Op
namespace Lib
open PySem L2 Fr Op
end Lib
namespace Lib
open PySem L2 Fr Op
end Lib
namespace L2
open PySem PySem.Spec PyProof.Rows
end L2
namespace L2
open PySem PySem.Spec PyProof.Rows
end L2
namespace Lib
open PySem L2 Fr Op
end Lib
namespace Lib
open PySem L2 Fr Op
end Lib
namespace Lib
open PySem L2 Fr Op
end Lib
namespace Lib
open PySem L2 Fr Op
end Lib
namespace Lib
open PySem L2 Fr Op
end Lib
namespace Lib
open PySem L2 Fr Op
end Lib
namespace L2
open PySem PySem.Spec PyProof.Rows PySem.Builtin
end L2
namespace Lib
open PySem L2 Fr Op
end Lib
namespace Lib
open PySem L2 Fr Op
end Lib
namespace Lib
open PySem L2 Fr Op
end Lib
namespace Lib
open PySem L2 Fr Op
end Lib
namespace Lib
open PySem L2 Fr Op
end Lib
namespace L2
open PySem PySem.Spec PyProof.Rows PySem.Builtin
end L2
namespace L2
open PySem PySem.Spec PyProof.Rows PySem.Builtin
end L2
namespace L2
open PySem PySem.Spec PyProof.Rows PySem.Builtin
end L2
namespace L2
open PySem PySem.Spec PyProof.Rows PySem.Builtin
end L2
namespace L2
open PySem PySem.Spec PyProof.Rows PySem.Builtin
end L2
namespace L2
open PySem PySem.Spec PyProof.Rows
end L2
namespace Lib
open PySem L2 Fr Op
end Lib
namespace Op
open Fr
end Op
namespace Lib
open PySem L2 Fr Op
end Lib
namespace Op
open Fr
end Op
namespace Lib
open PySem L2 Fr Op
end Lib
namespace Lib
open PySem L2 Fr Op
end Lib
namespace L2
open PySem PySem.Spec PyProof.Rows PySem.Builtin
end L2
namespace Op
open Fr
end Op
namespace Lib
open PySem L2 Fr Op
end Lib
namespace Op
open Fr Lib
end Op
namespace Lib
open PySem L2 Fr Op
end Lib
namespace Lib
open PySem L2 Fr Op
end Lib
namespace L2
open PySem PySem.Spec PyProof.Rows PySem.Builtin
end L2
namespace Lib
open PySem L2 Fr Op
end Lib
namespace L2
open PySem PySem.Spec PyProof.Rows
end L2
namespace Lib
open PySem L2 Fr Op
end Lib
namespace L2
open PySem PySem.Spec PyProof.Rows
end L2
namespace Lib
open PySem L2 Fr Op
end Lib
namespace L2
open PySem PySem.Spec PyProof.Rows
end L2
namespace L2
open PySem PySem.Spec PyProof.Rows PySem.Builtin
open PySem.AutoSeq1 (wpAny_loadPart')
end L2
namespace L2
open PySem PySem.Spec PySem.Calls PyProof.Rows PySem.W Builtin Builtin.ObjectAttr
end L2
namespace L2
open PySem PySem.Spec PySem.Calls PyProof.Rows PySem.W Builtin Builtin.ObjectAttr
end L2
namespace L2
open PySem PySem.Spec PySem.Calls PyProof.Rows PySem.W Builtin Builtin.ObjectAttr
end L2
namespace L2
open PySem PySem.Spec PySem.Calls PyProof.Rows PySem.W
end L2
namespace Lib
open PySem L2 Fr Op
def OddB (d : PyData) : Prop := pieceD d = false ∧ SmP d
theorem rep_flat1 (n : Nat) (x : V) : (List.replicate n [x]).flatten = List.replicate n x := by
  induction n with
  | zero => rfl
  | succ n ih => rw [List.replicate_succ, List.flatten_cons, ih, List.replicate_succ]; rfl
end Lib
namespace Lib
open PySem L2 Fr Op
end Lib
namespace L2
open PySem PySem.Spec PyProof.Rows
end L2
namespace L2
open PySem PySem.Spec PyProof.Rows PySem.Builtin PySem.Builtin.Str
section
variable {X : Cx} {k v : Expr} {tk tv : TE} {pos : Pos}
def tD1 (tk tv : TE) : TE := fun σ H Q => ∀ p, H p = none → tk σ (upd H p (.dK [])) fun x H1 => ∃ z, x = .str z ∧ tv σ H1 fun y H2 => H2 p = some (.dK []) ∧ Q (.ref p) (upd H2 p (.dK [(.inr z, y)]))
theorem pe_d1 (hk : PE X k tk) (hv : PE X v tv) : PE X (.Dict [some k] [v] pos) (tD1 tk tv) := by
  intro pins s σ H Q I h
  refine wpAny_Dict_pairs (knd := mixKind X.prog X.w) (pairs := [(eval k X.env, do let x ← eval v X.env; standAt pos; pure x)]) rfl (by simp) (by simp) ?_
  have hnew : H s.heap.objs.size = none := I.hok.fresh (Nat.le_refl _)
  have I0 : Inv X pins σ (upd H s.heap.objs.size (.dK [])) { s with heap := s.heap.push { cls := .type "dict", data := .dict #[] } } :=
    I.laid (a := s.heap.objs.size) (o := .dK []) (t' := s.toks) (fun _ _ q => Heap.get?_push_of_some _ q) (Nat.le_refl _)
      ⟨Nat.zero_le _, beq_eq_false_iff_ne.mpr (Ne.symm (Nat.ne_of_lt I.big2)), [], .nil, Heap.DictOf.new s.heap⟩
  refine evalPairs_cons (thn (hk pins _ σ _ _ I0 (h _ hnew)) fun kv s1 ⟨x, H1, I1, r1, z, e1, q1⟩ => ?_)
  subst e1
  obtain ⟨t, rfl⟩ := r1
  refine wpAny_bind (thn (hv pins s1 σ H1 _ I1 q1) fun vv s2 ⟨y, H2, I2, r2, hp, q2⟩ => ?_)
  refine wpAny_bind (wpAny_standAt (wpAny_pure ?_))
  obtain ⟨_, hS, vs, r, m⟩ : ([] : List (Key × V)).length ≤ sizeLine ∧ (s.heap.objs.size == sysModules) = false ∧ ∃ vs, KV [] vs ∧ s2.heap.DictOf (mixKind X.prog X.w) s.heap.objs.size vs := I2.hok _ _ hp
  cases r
  refine evalPairs_nil ⟨[(.inr z, vv)], ⟨mixKind_str _ _ z t, rfl, trivial⟩, m, fun h' hm hs => ?_⟩
  refine ⟨.ref s.heap.objs.size, _, I2.write (x := s.heap.objs.size) (o := .dK [(.inr z, y)]) (by rw [hp]; trivial) (.inl rfl) (fun b u nb hb => ?_) ?_ ⟨by show 1 ≤ sizeLine; decide, hS, [(.inr z, vv)], .cons ⟨rfl, r2⟩ .nil, hm⟩, rfl, q2⟩
  · exact (hs.2 b nb).trans hb
  · obtain ⟨o, _, _, e, _⟩ := hm
    exact ⟨o, e⟩
def rUpper : V → List V → Hp → VK → Prop := fun x vs H Q => ∃ i, x = .str i ∧ vs = [] ∧ tooLong (Txt.upper i).length = false ∧ Q (.str (Txt.upper i)) H
theorem mt_upper : MtM X "str.upper" rUpper := by
  intro pins s σ H x vs v us Q I rx rv h
  obtain ⟨i, rfl, rfl, hz, q⟩ := h
  obtain ⟨t, rfl⟩ := rx
  cases rv
  exact SC.upper hz ⟨.str _, H, I.tok _, ⟨_, rfl⟩, q⟩
structure ClsY (K : PySem.W.Frag) (C : Addr) : Prop where
  ha : PySem.W.findIn K (.ref C) "__class__" = some (some (.builtin "object.__class__"))
  hn : PySem.W.specialIn K (.builtin "object.__class__") "__get__" = some (some (.builtin "getset_descriptor.__get__"))
  ht : PySem.W.takesIn K (.builtin "object.__class__") = some true
  hm : PySem.W.mroIn K C (.type "object") = some true
theorem ClsY.ty {K : PySem.W.Frag} {C a dx : Addr} {fs : List (Str × V)} {H : Hp} (y : ClsY K C) (l : Cls K C) (e : H a = some (.ins C dx fs)) : TyOf K H (.ref a) (.ref C) := .ins e l y.ha y.hn y.ht y.hm
theorem rel_ref {a : Addr} : ∀ u, RelV (.ref a) u → u = .ref a := fun _ h => h
end
end L2
namespace Lib
open PySem L2 Fr Op
def SmC (d : PyData) : Prop := ∀ q, frD q = d → Sm q
theorem smc_fr {q : Rat} {n : Nat} (b : Bd n q) (h : n ≤ 4000) : SmC (frD q) := fun p e => by rw [frD_inj e]; exact b.sm h
theorem smc_no {d : PyData} (h : ∀ x y, d ≠ .tuple [.int x, .int y]) : SmC d := fun q e => absurd e.symm (h _ _)
theorem smc_two {x y : Int} (hx : x.natAbs < 2 ^ 60) (hy : y.natAbs < 2 ^ 60) : SmC (.tuple [.int x, .int y]) := fun q e => by
  unfold frD at e
  injection e with e
  injection e with e1 e2
  injection e1 with e1
  injection e2 with e2 _
  injection e2 with e2
  exact (⟨by rw [e1]; exact hx, by omega⟩ : Bd 60 q).sm (by decide)
theorem smp_of {ds : List PyData} (hl : ds.length ≤ 1000) (h : ∀ d ∈ ds, SmC d) : SmP (.tuple ds) := fun es e => by
  cases e
  exact ⟨hl, fun q hq => h _ hq q rfl⟩
theorem smp_no {d : PyData} (h : ∀ ds, d ≠ .tuple ds) : SmP d := fun ds e => absurd e (h ds)
theorem smc_str (z : Str) : SmC (.str z) := smc_no fun _ _ e => nomatch e
theorem smc_int (z : Int) : SmC (.int z) := smc_no fun _ _ e => nomatch e
theorem smc_es {es : List Rat} (h : ∀ e ∈ es, Bd 50 e) : ∀ d ∈ es.map frD, SmC d := fun d hd => by
  obtain ⟨e, he, rfl⟩ := List.mem_map.mp hd
  exact smc_fr (h e he) (by decide)
theorem odd_part {z : Str} {dp : PyData} {es : List Rat} (r : ratD dp = false) (s : SmC dp) (h : ∀ e ∈ es, Bd 50 e) (l : es.length ≤ 1) : OddB (.tuple (.str z :: dp :: es.map frD)) := by
  refine ⟨?_, smp_of (by simp only [List.length_cons, List.length_map]; omega) fun d hd => ?_⟩
  · show ((dp :: es.map frD).all ratD && _) = false
    rw [List.all_cons, r]
    rfl
  · rcases List.mem_cons.mp hd with rfl | hd
    · exact smc_str z
    · rcases List.mem_cons.mp hd with rfl | hd
      · exact s
      · exact smc_es h d hd
theorem odd_word {z : Str} {es : List Rat} (h1 : z ≠ "stop") (h2 : z ≠ "gap") (h3 : z ≠ "glass") (h : ∀ e ∈ es, Bd 50 e) (l : es.length ≤ 10) : OddB (.tuple (.str z :: es.map frD)) := by
  refine ⟨?_, smp_of (by simp only [List.length_cons, List.length_map]; omega) fun d hd => ?_⟩
  · cases es with
    | nil => rfl
    | cons e es =>
      show ((frD e :: es.map frD).all ratD && (if z = "stop" then _ else (decide (z = "gap") || decide (z = "glass")) && _)) = false
      rw [if_neg h1, decide_eq_false h2, decide_eq_false h3]
      simp
  · rcases List.mem_cons.mp hd with rfl | hd
    · exact smc_str z
    · exact smc_es h d hd
theorem odd_long {z : Str} {e1 e2 : Rat} {es : List Rat} (h1 : z ≠ "stop") (h : ∀ e ∈ e1 :: e2 :: es, Bd 50 e) (l : es.length ≤ 10) : OddB (.tuple (.str z :: (e1 :: e2 :: es).map frD)) := by
  refine ⟨?_, smp_of (by simp only [List.length_cons, List.length_map]; omega) fun d hd => ?_⟩
  · show ((frD e1 :: (e2 :: es).map frD).all ratD && (if z = "stop" then _ else (decide (z = "gap") || decide (z = "glass")) && ((e2 :: es).map frD).isEmpty)) = false
    rw [if_neg h1]
    simp
  · rcases List.mem_cons.mp hd with rfl | hd
    · exact smc_str z
    · exact smc_es h d hd
theorem odd_stop1 {e : Rat} (h : Bd 50 e) : OddB (.tuple [.str "stop", frD e]) := by
  refine ⟨?_, smp_of (by simp) fun d hd => ?_⟩
  · show ([frD e].all ratD && (if ("stop" : Str) = "stop" then stopD [frD e] else _)) = false
    rw [if_pos rfl]
    have : stopD [frD e] = false := rfl
    rw [this, Bool.and_false]
  · rcases List.mem_cons.mp hd with rfl | hd
    · exact smc_str _
    · exact smc_es (es := [e]) (fun x hx => by rw [List.mem_singleton.mp hx]; exact h) d hd
theorem odd_stop3 {a b c : Rat} (h : ∀ e ∈ [a, b, c], Bd 50 e) : OddB (.tuple [.str "stop", frD a, frD b, frD c]) := by
  refine ⟨?_, smp_of (by simp) fun d hd => ?_⟩
  · show ([frD a, frD b, frD c].all ratD && (if ("stop" : Str) = "stop" then stopD [frD a, frD b, frD c] else _)) = false
    rw [if_pos rfl]
    have : stopD [frD a, frD b, frD c] = false := rfl
    rw [this, Bool.and_false]
  · rcases List.mem_cons.mp hd with rfl | hd
    · exact smc_str _
    · exact smc_es (es := [a, b, c]) h d hd
theorem odd_turn {lo hi : Rat} (b1 : Bd 50 lo) (b2 : Bd 50 hi) (ok : ¬ hi < lo) (ne : lo ≠ hi) : OddB (.tuple [.str "stop", frD hi, frD lo]) := by
  refine ⟨?_, smp_of (by simp) fun d hd => ?_⟩
  · show ([frD hi, frD lo].all ratD && (if ("stop" : Str) = "stop" then stopD [frD hi, frD lo] else _)) = false
    rw [if_pos rfl, stopD_fr, decide_eq_true (by grind)]
    simp
  · rcases List.mem_cons.mp hd with rfl | hd
    · exact smc_str _
    · exact smc_es (es := [hi, lo]) (fun x hx => by simp only [List.mem_cons, List.not_mem_nil, or_false] at hx; rcases hx with rfl | rfl <;> assumption) d hd
theorem odd_frs {e : Rat} {es : List Rat} (h : ∀ x ∈ e :: es, Bd 50 x) (l : es.length ≤ 10) : OddB (.tuple ((e :: es).map frD)) :=
  ⟨rfl, smp_of (by simp only [List.length_cons, List.length_map]; omega) (smc_es h)⟩
theorem odd_int {z : Int} {es : List Rat} (h : ∀ x ∈ es, Bd 50 x) (l : es.length ≤ 10) : OddB (.tuple (.int z :: es.map frD)) :=
  ⟨rfl, smp_of (by simp only [List.length_cons, List.length_map]; omega) fun d hd => by
    rcases List.mem_cons.mp hd with rfl | hd
    · exact smc_int z
    · exact smc_es h d hd⟩
theorem odd_one (z : Str) : OddB (.tuple [.str z]) := ⟨rfl, smp_of (by simp) fun d hd => by rw [List.mem_singleton.mp hd]; exact smc_str z⟩
theorem odd_no {d : PyData} (h : ∀ ds, d ≠ .tuple ds) : OddB d := ⟨by cases d with | tuple ds => exact absurd rfl (h ds) | _ => rfl, smp_no h⟩
theorem odd_nil : OddB (.tuple []) := ⟨rfl, smp_of (by decide) (fun _ h => nomatch h)⟩
theorem rat_twice (x : Int) {y : Int} : ratD (.tuple [.int (2 * x), .int (2 * y)]) = false := by
  show (decide (1 ≤ 2 * y) && decide (Fr.gcd (2 * x) (2 * y) = 1)) = false
  have : ¬ Fr.gcd (2 * x) (2 * y) = 1 := fun e => by
    unfold Fr.gcd at e
    rw [Int.natAbs_mul, Int.natAbs_mul, show (2 : Int).natAbs = 2 from rfl, Nat.gcd_mul_left] at e
    omega
  rw [decide_eq_false this, Bool.and_false]
theorem cut2 (xs : List V) : cutV xs (some 2) none = xs.drop 2 := by
  unfold cutV
  rw [show HT.sIx xs.length 0 (some 2) = min 2 xs.length from HT.sIx_nat _ _ 2, HT.sIx_none]
  rcases xs with _ | ⟨x, _ | ⟨y, xs⟩⟩
  · rfl
  · rfl
  · simp
theorem same_put {H0 H1 : Hp} {p : Addr} {o : HO} (s : Same H0 H1) (h : H0 p = none) : Same H0 (upd H1 p o) := fun b x hb => by
  have nb : b ≠ p := fun e => by rw [e, h] at hb; cases hb
  rw [upd_ne nb]
  exact s _ _ hb
end Lib
namespace K07
open PySem L2 Lib Fr Op
seal PE PT PW PA PS PSs PG PGs PI PO
def top (i : Nat) : Stmt := PySem.Challenge.pw_grindbench_k07_what_is_a_piece.main.body.getD i (.Pass ⟨0, 0, 0, 0⟩)
abbrev s_is_whole : Stmt := top 2
theorem sc_is_whole : FnScope ["thing"] ["thing"] (defScope s_is_whole) := ⟨rfl, rfl, rfl, by decide +kernel, rfl, by decide +kernel, by decide +kernel⟩
abbrev s_common_divisor : Stmt := top 3
theorem sc_common_divisor : FnScope ["one", "other", "greater", "lesser", "rest"] ["one", "other"] (defScope s_common_divisor) := ⟨rfl, rfl, rfl, by decide +kernel, rfl, by decide +kernel, by decide +kernel⟩
abbrev s_is_ratio : Stmt := top 4
theorem sc_is_ratio : FnScope ["thing", "top", "bottom"] ["thing"] (defScope s_is_ratio) := ⟨rfl, rfl, rfl, by decide +kernel, rfl, by decide +kernel, by decide +kernel⟩
abbrev s_is_less : Stmt := top 5
theorem sc_is_less : FnScope ["one", "other"] ["one", "other"] (defScope s_is_less) := ⟨rfl, rfl, rfl, by decide +kernel, rfl, by decide +kernel, by decide +kernel⟩
abbrev s_is_piece : Stmt := top 14
theorem sc_is_piece : FnScope ["thing"] ["thing"] (defScope s_is_piece) := ⟨rfl, rfl, rfl, by decide +kernel, rfl, by decide +kernel, by decide +kernel⟩
abbrev s_piece_of : Stmt := top 15
theorem sc_piece_of : FnScope ["told"] ["told"] (defScope s_piece_of) := ⟨rfl, rfl, rfl, by decide +kernel, rfl, by decide +kernel, by decide +kernel⟩
abbrev s__law_cell_at : Stmt := top 17
theorem sc__law_cell_at : FnScope ["_law_script", "_law_k"] ["_law_script", "_law_k"] (defScope s__law_cell_at) := ⟨rfl, rfl, rfl, by decide +kernel, rfl, by decide +kernel, by decide +kernel⟩
abbrev s__law_drawn : Stmt := top 18
theorem sc__law_drawn : FnScope ["_law_script", "_law_start"] ["_law_script", "_law_start"] (defScope s__law_drawn) := ⟨rfl, rfl, rfl, by decide +kernel, rfl, by decide +kernel, by decide +kernel⟩
abbrev s__law_draw : Stmt := top 19
theorem sc__law_draw : FnScope ["_law_drawn_here", "_law_many", "_law_cells", "_law_number"] ["_law_drawn_here", "_law_many"] (defScope s__law_draw) := ⟨rfl, rfl, rfl, by decide +kernel, rfl, by decide +kernel, by decide +kernel⟩
abbrev s__law_low : Stmt := top 20
theorem sc__law_low : FnScope ["_law_top", "_law_bottom", "_law_one", "_law_other"] ["_law_top", "_law_bottom"] (defScope s__law_low) := ⟨rfl, rfl, rfl, by decide +kernel, rfl, by decide +kernel, by decide +kernel⟩
abbrev s__law_under : Stmt := top 21
theorem sc__law_under : FnScope ["_law_one", "_law_other"] ["_law_one", "_law_other"] (defScope s__law_under) := ⟨rfl, rfl, rfl, by decide +kernel, rfl, by decide +kernel, by decide +kernel⟩
abbrev s__law_part : Stmt := top 22
theorem sc__law_part : FnScope ["_law_drawn_here", "_law_far", "_law_top", "_law_bottom"] ["_law_drawn_here", "_law_far"] (defScope s__law_part) := ⟨rfl, rfl, rfl, by decide +kernel, rfl, by decide +kernel, by decide +kernel⟩
abbrev s__law_piece : Stmt := top 23
theorem sc__law_piece : FnScope ["_law_drawn_here", "_law_far", "_law_way", "_law_one", "_law_other"] ["_law_drawn_here", "_law_far"] (defScope s__law_piece) := ⟨rfl, rfl, rfl, by decide +kernel, rfl, by decide +kernel, by decide +kernel⟩
abbrev s__law_wrong : Stmt := top 24
theorem sc__law_wrong : FnScope ["_law_piece_here", "_law_cell", "_law_word", "_law_others", "_law_top", "_law_bottom", "_law_parts"] ["_law_piece_here", "_law_cell"] (defScope s__law_wrong) := ⟨rfl, rfl, rfl, by decide +kernel, rfl, by decide +kernel, by decide +kernel⟩
abbrev s__law_is_of : Stmt := top 25
theorem sc__law_is_of : FnScope ["_law_found", "_law_word", "_law_kinds"] ["_law_found", "_law_word"] (defScope s__law_is_of) := ⟨rfl, rfl, rfl, by decide +kernel, rfl, by decide +kernel, by decide +kernel⟩
abbrev s__law_truth : Stmt := top 26
theorem sc__law_truth : FnScope ["_law_found", "_law_due"] ["_law_found", "_law_due"] (defScope s__law_truth) := ⟨rfl, rfl, rfl, by decide +kernel, rfl, by decide +kernel, by decide +kernel⟩
abbrev s_law : Stmt := top 27
theorem sc_law : FnScope ["_law_script", "_law_drawn_here", "_law_far", "_law_cell", "_law_piece_here", "_law_wrong_here", "_law_found"] ["_law_script"] (defScope s_law) := ⟨rfl, rfl, rfl, by decide +kernel, rfl, by decide +kernel, by decide +kernel⟩
abbrev s_Gap_init : Stmt := inClass (top 11) 0
theorem sc_Gap_init : FnScope ["self", "length"] ["self", "length"] (defScope s_Gap_init) := ⟨rfl, rfl, rfl, by decide +kernel, rfl, by decide +kernel, by decide +kernel⟩
abbrev s_Gap_told : Stmt := inClass (top 11) 2
theorem sc_Gap_told : FnScope ["self"] ["self"] (defScope s_Gap_told) := ⟨rfl, rfl, rfl, by decide +kernel, rfl, by decide +kernel, by decide +kernel⟩
abbrev s_Glass_init : Stmt := inClass (top 12) 0
theorem sc_Glass_init : FnScope ["self", "strength"] ["self", "strength"] (defScope s_Glass_init) := ⟨rfl, rfl, rfl, by decide +kernel, rfl, by decide +kernel, by decide +kernel⟩
abbrev s_Glass_told : Stmt := inClass (top 12) 2
theorem sc_Glass_told : FnScope ["self"] ["self"] (defScope s_Glass_told) := ⟨rfl, rfl, rfl, by decide +kernel, rfl, by decide +kernel, by decide +kernel⟩
abbrev s_Stop_init : Stmt := inClass (top 13) 0
theorem sc_Stop_init : FnScope ["self", "low", "high"] ["self", "low", "high"] (defScope s_Stop_init) := ⟨rfl, rfl, rfl, by decide +kernel, rfl, by decide +kernel, by decide +kernel⟩
abbrev s_Stop_told : Stmt := inClass (top 13) 2
theorem sc_Stop_told : FnScope ["self"] ["self"] (defScope s_Stop_told) := ⟨rfl, rfl, rfl, by decide +kernel, rfl, by decide +kernel, by decide +kernel⟩
structure Adr where
  z0 : Nat := 0
  Piece : Addr
  Gap : Addr
  Glass : Addr
  Stop : Addr
  tGAP : Tok
  tGLASS : Tok
  tSTOP : Tok
structure Exc (K : PySem.W.Frag) (mg : Str → Option Value) (ad : Adr) : Prop where
  tt : True := trivial
  m_Piece : mg "Piece" = some (.ref ad.Piece)
  m_Gap : mg "Gap" = some (.ref ad.Gap)
  m_Glass : mg "Glass" = some (.ref ad.Glass)
  m_Stop : mg "Stop" = some (.ref ad.Stop)
  m_GAP : mg "GAP" = some (.str "gap" ad.tGAP)
  m_GLASS : mg "GLASS" = some (.str "glass" ad.tGLASS)
  m_STOP : mg "STOP" = some (.str "stop" ad.tSTOP)
  l_Gap : Cls K ad.Gap
  i_Gap : MkFn K mg "Gap" ad.Gap "Gap.__init__" s_Gap_init
  q_Gap_told : MtFn K ad.Gap "told" "Gap.told" s_Gap_told
  n_Gap_length : NoAttr K ad.Gap "length"
  y_Gap : ClsY K ad.Gap
  k_Gap_Gap : PySem.W.kitOne K (.ref ad.Gap) (.ref ad.Gap) = some true
  k_Gap_Glass : PySem.W.kitOne K (.ref ad.Gap) (.ref ad.Glass) = some false
  k_Gap_Stop : PySem.W.kitOne K (.ref ad.Gap) (.ref ad.Stop) = some false
  k_Gap_Piece : PySem.W.kitOne K (.ref ad.Gap) (.ref ad.Piece) = some true
  l_Glass : Cls K ad.Glass
  i_Glass : MkFn K mg "Glass" ad.Glass "Glass.__init__" s_Glass_init
  q_Glass_told : MtFn K ad.Glass "told" "Glass.told" s_Glass_told
  n_Glass_strength : NoAttr K ad.Glass "strength"
  y_Glass : ClsY K ad.Glass
  k_Glass_Gap : PySem.W.kitOne K (.ref ad.Glass) (.ref ad.Gap) = some false
  k_Glass_Glass : PySem.W.kitOne K (.ref ad.Glass) (.ref ad.Glass) = some true
  k_Glass_Stop : PySem.W.kitOne K (.ref ad.Glass) (.ref ad.Stop) = some false
  k_Glass_Piece : PySem.W.kitOne K (.ref ad.Glass) (.ref ad.Piece) = some true
  l_Stop : Cls K ad.Stop
  i_Stop : MkFn K mg "Stop" ad.Stop "Stop.__init__" s_Stop_init
  q_Stop_told : MtFn K ad.Stop "told" "Stop.told" s_Stop_told
  n_Stop_low : NoAttr K ad.Stop "low"
  n_Stop_high : NoAttr K ad.Stop "high"
  y_Stop : ClsY K ad.Stop
  k_Stop_Gap : PySem.W.kitOne K (.ref ad.Stop) (.ref ad.Gap) = some false
  k_Stop_Glass : PySem.W.kitOne K (.ref ad.Stop) (.ref ad.Glass) = some false
  k_Stop_Stop : PySem.W.kitOne K (.ref ad.Stop) (.ref ad.Stop) = some true
  k_Stop_Piece : PySem.W.kitOne K (.ref ad.Stop) (.ref ad.Piece) = some true
structure Txt (K : PySem.W.Frag) (mg : Str → Option Value) (ad : Adr) : Prop where
  ex : Exc K mg ad
  abs : mg "abs" = none
  all : mg "all" = none
  bool : mg "bool" = none
  int : mg "int" = none
  isinstance : mg "isinstance" = none
  len : mg "len" = none
  list : mg "list" = none
  str : mg "str" = none
  tuple : mg "tuple" = none
  t_is_whole : TopFn K mg "is_whole" s_is_whole
  t_common_divisor : TopFn K mg "common_divisor" s_common_divisor
  t_is_ratio : TopFn K mg "is_ratio" s_is_ratio
  t_is_less : TopFn K mg "is_less" s_is_less
  t_is_piece : TopFn K mg "is_piece" s_is_piece
  t_piece_of : TopFn K mg "piece_of" s_piece_of
  t__law_cell_at : TopFn K mg "_law_cell_at" s__law_cell_at
  t__law_drawn : TopFn K mg "_law_drawn" s__law_drawn
  t__law_draw : TopFn K mg "_law_draw" s__law_draw
  t__law_low : TopFn K mg "_law_low" s__law_low
  t__law_under : TopFn K mg "_law_under" s__law_under
  t__law_part : TopFn K mg "_law_part" s__law_part
  t__law_piece : TopFn K mg "_law_piece" s__law_piece
  t__law_wrong : TopFn K mg "_law_wrong" s__law_wrong
  t__law_is_of : TopFn K mg "_law_is_of" s__law_is_of
  t__law_truth : TopFn K mg "_law_truth" s__law_truth
theorem exc_mk {K : PySem.W.Frag} {h : Heap} {mg : Str → Option Value} {CPiece CGap CGlass CStop : Addr} {tGAP : Tok} {tGLASS : Tok} {tSTOP : Tok} {f_Gap_init : Addr} {oc_Gap_init : Value} {od_Gap_init an_Gap_init : Option Addr} {sl_Gap_init : Array (Option Value)} {kV_Gap_init dc_Gap_init pm_Gap_init cd_Gap_init ct_Gap_init : Value} {f_Gap_told : Addr} {oc_Gap_told : Value} {od_Gap_told an_Gap_told : Option Addr} {sl_Gap_told : Array (Option Value)} {kV_Gap_told dc_Gap_told pm_Gap_told cd_Gap_told ct_Gap_told : Value} {f_Glass_init : Addr} {oc_Glass_init : Value} {od_Glass_init an_Glass_init : Option Addr} {sl_Glass_init : Array (Option Value)} {kV_Glass_init dc_Glass_init pm_Glass_init cd_Glass_init ct_Glass_init : Value} {f_Glass_told : Addr} {oc_Glass_told : Value} {od_Glass_told an_Glass_told : Option Addr} {sl_Glass_told : Array (Option Value)} {kV_Glass_told dc_Glass_told pm_Glass_told cd_Glass_told ct_Glass_told : Value} {f_Stop_init : Addr} {oc_Stop_init : Value} {od_Stop_init an_Stop_init : Option Addr} {sl_Stop_init : Array (Option Value)} {kV_Stop_init dc_Stop_init pm_Stop_init cd_Stop_init ct_Stop_init : Value} {f_Stop_told : Addr} {oc_Stop_told : Value} {od_Stop_told an_Stop_told : Option Addr} {sl_Stop_told : Array (Option Value)} {kV_Stop_told dc_Stop_told pm_Stop_told cd_Stop_told ct_Stop_told : Value} (X : K.In h) (G : h.Ns mainGlobals mg) (m_Piece : PySem.W.nsIn K mainGlobals "Piece" = some (some (.ref CPiece))) (m_Gap : PySem.W.nsIn K mainGlobals "Gap" = some (some (.ref CGap))) (m_Glass : PySem.W.nsIn K mainGlobals "Glass" = some (some (.ref CGlass))) (m_Stop : PySem.W.nsIn K mainGlobals "Stop" = some (some (.ref CStop))) (m_GAP : PySem.W.nsIn K mainGlobals "GAP" = some (some (.str "gap" tGAP))) (m_GLASS : PySem.W.nsIn K mainGlobals "GLASS" = some (some (.str "glass" tGLASS))) (m_STOP : PySem.W.nsIn K mainGlobals "STOP" = some (some (.str "stop" tSTOP))) (pg_Gap : PySem.W.plainGet K CGap Str.empty = true) (hd_Gap : PySem.W.hasDictIn K CGap = true) (po_Gap : PySem.W.plainOver K CGap = true) (sa_Gap : PySem.W.findIn K (.ref CGap) "__setattr__" = some (some (.builtin "object.__setattr__"))) (mk_Gap_init : PySem.W.makesIn K CGap = true) (a_Gap_init : PySem.W.findIn K (.ref CGap) "__init__" = some (some (.ref f_Gap_init))) (fn_Gap_init : PySem.W.isFn K (.ref f_Gap_init) = true) (kc_Gap_init : PySem.W.keepIn K (.ref CGap) = true) (l_Gap_init : K.lookup f_Gap_init = some ⟨oc_Gap_init, od_Gap_init, .func (PySem.W.fnOf "__init__" "Gap.__init__" (defArgs s_Gap_init) (defBody s_Gap_init) (defScope s_Gap_init) .none kV_Gap_init dc_Gap_init pm_Gap_init an_Gap_init cd_Gap_init ct_Gap_init), sl_Gap_init⟩) (c_Gap_init : PySem.W.codeIn K cd_Gap_init "Gap.__init__" = true) (kp_Gap_init : PySem.W.keepIn K (.ref f_Gap_init) = true) (a_Gap_told : PySem.W.findIn K (.ref CGap) "told" = some (some (.ref f_Gap_told))) (fn_Gap_told : PySem.W.isFn K (.ref f_Gap_told) = true) (kp_Gap_told : PySem.W.keepIn K (.ref f_Gap_told) = true) (l_Gap_told : K.lookup f_Gap_told = some ⟨oc_Gap_told, od_Gap_told, .func (PySem.W.fnOf "told" "Gap.told" (defArgs s_Gap_told) (defBody s_Gap_told) (defScope s_Gap_told) .none kV_Gap_told dc_Gap_told pm_Gap_told an_Gap_told cd_Gap_told ct_Gap_told), sl_Gap_told⟩) (c_Gap_told : PySem.W.codeIn K cd_Gap_told "Gap.told" = true) (n_Gap_length : PySem.W.findIn K (.ref CGap) "length" = some none) (ha_Gap : PySem.W.findIn K (.ref CGap) "__class__" = some (some (.builtin "object.__class__"))) (hn_Gap : PySem.W.specialIn K (.builtin "object.__class__") "__get__" = some (some (.builtin "getset_descriptor.__get__"))) (ht_Gap : PySem.W.takesIn K (.builtin "object.__class__") = some true) (hm_Gap : PySem.W.mroIn K CGap (.type "object") = some true) (k_Gap_Gap : PySem.W.kitOne K (.ref CGap) (.ref CGap) = some true) (k_Gap_Glass : PySem.W.kitOne K (.ref CGap) (.ref CGlass) = some false) (k_Gap_Stop : PySem.W.kitOne K (.ref CGap) (.ref CStop) = some false) (k_Gap_Piece : PySem.W.kitOne K (.ref CGap) (.ref CPiece) = some true) (pg_Glass : PySem.W.plainGet K CGlass Str.empty = true) (hd_Glass : PySem.W.hasDictIn K CGlass = true) (po_Glass : PySem.W.plainOver K CGlass = true) (sa_Glass : PySem.W.findIn K (.ref CGlass) "__setattr__" = some (some (.builtin "object.__setattr__"))) (mk_Glass_init : PySem.W.makesIn K CGlass = true) (a_Glass_init : PySem.W.findIn K (.ref CGlass) "__init__" = some (some (.ref f_Glass_init))) (fn_Glass_init : PySem.W.isFn K (.ref f_Glass_init) = true) (kc_Glass_init : PySem.W.keepIn K (.ref CGlass) = true) (l_Glass_init : K.lookup f_Glass_init = some ⟨oc_Glass_init, od_Glass_init, .func (PySem.W.fnOf "__init__" "Glass.__init__" (defArgs s_Glass_init) (defBody s_Glass_init) (defScope s_Glass_init) .none kV_Glass_init dc_Glass_init pm_Glass_init an_Glass_init cd_Glass_init ct_Glass_init), sl_Glass_init⟩) (c_Glass_init : PySem.W.codeIn K cd_Glass_init "Glass.__init__" = true) (kp_Glass_init : PySem.W.keepIn K (.ref f_Glass_init) = true) (a_Glass_told : PySem.W.findIn K (.ref CGlass) "told" = some (some (.ref f_Glass_told))) (fn_Glass_told : PySem.W.isFn K (.ref f_Glass_told) = true) (kp_Glass_told : PySem.W.keepIn K (.ref f_Glass_told) = true) (l_Glass_told : K.lookup f_Glass_told = some ⟨oc_Glass_told, od_Glass_told, .func (PySem.W.fnOf "told" "Glass.told" (defArgs s_Glass_told) (defBody s_Glass_told) (defScope s_Glass_told) .none kV_Glass_told dc_Glass_told pm_Glass_told an_Glass_told cd_Glass_told ct_Glass_told), sl_Glass_told⟩) (c_Glass_told : PySem.W.codeIn K cd_Glass_told "Glass.told" = true) (n_Glass_strength : PySem.W.findIn K (.ref CGlass) "strength" = some none) (ha_Glass : PySem.W.findIn K (.ref CGlass) "__class__" = some (some (.builtin "object.__class__"))) (hn_Glass : PySem.W.specialIn K (.builtin "object.__class__") "__get__" = some (some (.builtin "getset_descriptor.__get__"))) (ht_Glass : PySem.W.takesIn K (.builtin "object.__class__") = some true) (hm_Glass : PySem.W.mroIn K CGlass (.type "object") = some true) (k_Glass_Gap : PySem.W.kitOne K (.ref CGlass) (.ref CGap) = some false) (k_Glass_Glass : PySem.W.kitOne K (.ref CGlass) (.ref CGlass) = some true) (k_Glass_Stop : PySem.W.kitOne K (.ref CGlass) (.ref CStop) = some false) (k_Glass_Piece : PySem.W.kitOne K (.ref CGlass) (.ref CPiece) = some true) (pg_Stop : PySem.W.plainGet K CStop Str.empty = true) (hd_Stop : PySem.W.hasDictIn K CStop = true) (po_Stop : PySem.W.plainOver K CStop = true) (sa_Stop : PySem.W.findIn K (.ref CStop) "__setattr__" = some (some (.builtin "object.__setattr__"))) (mk_Stop_init : PySem.W.makesIn K CStop = true) (a_Stop_init : PySem.W.findIn K (.ref CStop) "__init__" = some (some (.ref f_Stop_init))) (fn_Stop_init : PySem.W.isFn K (.ref f_Stop_init) = true) (kc_Stop_init : PySem.W.keepIn K (.ref CStop) = true) (l_Stop_init : K.lookup f_Stop_init = some ⟨oc_Stop_init, od_Stop_init, .func (PySem.W.fnOf "__init__" "Stop.__init__" (defArgs s_Stop_init) (defBody s_Stop_init) (defScope s_Stop_init) .none kV_Stop_init dc_Stop_init pm_Stop_init an_Stop_init cd_Stop_init ct_Stop_init), sl_Stop_init⟩) (c_Stop_init : PySem.W.codeIn K cd_Stop_init "Stop.__init__" = true) (kp_Stop_init : PySem.W.keepIn K (.ref f_Stop_init) = true) (a_Stop_told : PySem.W.findIn K (.ref CStop) "told" = some (some (.ref f_Stop_told))) (fn_Stop_told : PySem.W.isFn K (.ref f_Stop_told) = true) (kp_Stop_told : PySem.W.keepIn K (.ref f_Stop_told) = true) (l_Stop_told : K.lookup f_Stop_told = some ⟨oc_Stop_told, od_Stop_told, .func (PySem.W.fnOf "told" "Stop.told" (defArgs s_Stop_told) (defBody s_Stop_told) (defScope s_Stop_told) .none kV_Stop_told dc_Stop_told pm_Stop_told an_Stop_told cd_Stop_told ct_Stop_told), sl_Stop_told⟩) (c_Stop_told : PySem.W.codeIn K cd_Stop_told "Stop.told" = true) (n_Stop_low : PySem.W.findIn K (.ref CStop) "low" = some none) (n_Stop_high : PySem.W.findIn K (.ref CStop) "high" = some none) (ha_Stop : PySem.W.findIn K (.ref CStop) "__class__" = some (some (.builtin "object.__class__"))) (hn_Stop : PySem.W.specialIn K (.builtin "object.__class__") "__get__" = some (some (.builtin "getset_descriptor.__get__"))) (ht_Stop : PySem.W.takesIn K (.builtin "object.__class__") = some true) (hm_Stop : PySem.W.mroIn K CStop (.type "object") = some true) (k_Stop_Gap : PySem.W.kitOne K (.ref CStop) (.ref CGap) = some false) (k_Stop_Glass : PySem.W.kitOne K (.ref CStop) (.ref CGlass) = some false) (k_Stop_Stop : PySem.W.kitOne K (.ref CStop) (.ref CStop) = some true) (k_Stop_Piece : PySem.W.kitOne K (.ref CStop) (.ref CPiece) = some true) : Exc K mg ⟨0, CPiece, CGap, CGlass, CStop, tGAP, tGLASS, tSTOP⟩ := ⟨trivial, PySem.W.mg_of X G m_Piece, PySem.W.mg_of X G m_Gap, PySem.W.mg_of X G m_Glass, PySem.W.mg_of X G m_Stop, PySem.W.mg_of X G m_GAP, PySem.W.mg_of X G m_GLASS, PySem.W.mg_of X G m_STOP, ⟨pg_Gap, hd_Gap, po_Gap, sa_Gap⟩, ⟨⟨_, _, fun_mk l_Gap_init c_Gap_init kp_Gap_init, ⟨mk_Gap_init, a_Gap_init, fn_Gap_init, kc_Gap_init⟩⟩, PySem.W.mg_of X G m_Gap⟩, ⟨⟨_, _, fun_mk l_Gap_told c_Gap_told kp_Gap_told, ⟨a_Gap_told, fn_Gap_told, kp_Gap_told⟩⟩, ⟨pg_Gap, hd_Gap, po_Gap, sa_Gap⟩⟩, n_Gap_length, ⟨ha_Gap, hn_Gap, ht_Gap, hm_Gap⟩, k_Gap_Gap, k_Gap_Glass, k_Gap_Stop, k_Gap_Piece, ⟨pg_Glass, hd_Glass, po_Glass, sa_Glass⟩, ⟨⟨_, _, fun_mk l_Glass_init c_Glass_init kp_Glass_init, ⟨mk_Glass_init, a_Glass_init, fn_Glass_init, kc_Glass_init⟩⟩, PySem.W.mg_of X G m_Glass⟩, ⟨⟨_, _, fun_mk l_Glass_told c_Glass_told kp_Glass_told, ⟨a_Glass_told, fn_Glass_told, kp_Glass_told⟩⟩, ⟨pg_Glass, hd_Glass, po_Glass, sa_Glass⟩⟩, n_Glass_strength, ⟨ha_Glass, hn_Glass, ht_Glass, hm_Glass⟩, k_Glass_Gap, k_Glass_Glass, k_Glass_Stop, k_Glass_Piece, ⟨pg_Stop, hd_Stop, po_Stop, sa_Stop⟩, ⟨⟨_, _, fun_mk l_Stop_init c_Stop_init kp_Stop_init, ⟨mk_Stop_init, a_Stop_init, fn_Stop_init, kc_Stop_init⟩⟩, PySem.W.mg_of X G m_Stop⟩, ⟨⟨_, _, fun_mk l_Stop_told c_Stop_told kp_Stop_told, ⟨a_Stop_told, fn_Stop_told, kp_Stop_told⟩⟩, ⟨pg_Stop, hd_Stop, po_Stop, sa_Stop⟩⟩, n_Stop_low, n_Stop_high, ⟨ha_Stop, hn_Stop, ht_Stop, hm_Stop⟩, k_Stop_Gap, k_Stop_Glass, k_Stop_Stop, k_Stop_Piece⟩
section
variable {P : Program} {w : World} {K : PySem.W.Frag} {mg : Str → Option Value} {base : Heap} {ad : Adr} {c : Bool}
theorem c_is_whole (T : Txt K mg ad) : CalB P w K mg base true 1 "is_whole" ["thing"] (spW K) := by
  refine T.t_is_whole.calN sc_is_whole (fun _ _ _ _ _ _ => by1 fun _ => rfl) (fun vs H Q E h => ?_) (fun f cdv A outer s H vs Q E hr h => ?_)
  · obtain ⟨v, d, rfl, _⟩ := h; rfl
  obtain ⟨v, d, rfl, hv, q⟩ := h
  obtain ⟨b, b', hb, hc, e⟩ := isInt_b d
  refine ⟨_, (pss_one (ps_ret (pe_and (pe_callB call_isiD rfl T.isinstance bt_isinstance (pa_name (pv 0) (pa_name (pe_bltn (v := .ty "int") rfl T.int bt_int rfl) pa_nil))) (pe_one (pe_not (pe_callB call_isiD rfl T.isinstance bt_isinstance (pa_name (pv 0) (pa_name (pe_bltn (v := .ty "bool") rfl T.bool bt_bool rfl) pa_nil)))))))), ?_⟩
  refine ⟨_, rfl, _, _, _, b, rfl, hv, hb, _, rfl, ?_⟩
  cases b with
  | false =>
    have e' : isIntD d = false := e.symm
    rw [e'] at q
    exact iteF q
  | true =>
    refine iteT ?_
    refine ⟨_, rfl, _, _, _, b', rfl, hv, hc, _, rfl, ?_⟩
    have e' : (!b') = isIntD d := e
    show Q (.bl (!b')) H
    rw [e']
    exact q
theorem c_common_divisor (T : Txt K mg ad) : CalB P w K mg base true 1 "common_divisor" ["one", "other"] spDiv := by
  refine T.t_common_divisor.calN sc_common_divisor (fun _ _ _ _ _ _ => by2 fun _ _ => rfl) (fun vs H Q E h => ?_) (fun f cdv A outer s H vs Q E hr h => ?_)
  · obtain ⟨a, b, rfl, _⟩ := h; rfl
  obtain ⟨a, b, rfl, q⟩ := h
  refine ⟨_, (pss_cons (ps_set (i := 2) sc_common_divisor.nd rfl (Or.inl rfl) (pe_callB call_abs rfl T.abs bt_abs (pa_name (pv 0) pa_nil))) (pss_cons (ps_set (i := 3) sc_common_divisor.nd rfl (Or.inl rfl) (pe_callB call_abs rfl T.abs bt_abs (pa_name (pv 1) pa_nil))) (pss_cons (ps_while PassesOwn.never (pt_cmpR op_ne (pv 3) pe_int (nomark _)) (pss_cons (ps_set (i := 4) sc_common_divisor.nd rfl (Or.inl rfl) (pe_op op_mod (pv 2) (pv 3))) (pss_cons (ps_set (i := 2) sc_common_divisor.nd rfl (Or.inl rfl) (pv 3)) (pss_one (ps_set (i := 3) sc_common_divisor.nd rfl (Or.inl rfl) (pv 4)))))) (pss_one (ps_ret (pv 2)))))), ?_⟩
  refine ⟨_, rfl, _, rfl, _, rfl, _, rfl, ?_⟩
  have ea := Fr.absE a
  have eb := Fr.absE b
  refine ⟨fun k σ H' => H = H' ∧ ∃ (m : Nat) (r : Option V), σ = [some (.int a), some (.int b), some (.int m), some (.int k), r] ∧ Nat.gcd m k = Nat.gcd a.natAbs b.natAbs, ⟨b.natAbs, rfl, a.natAbs, none, by rw [← ea, ← eb]; rfl, rfl⟩, ?_⟩
  rintro n _ _ ⟨rfl, m, r, rfl, e⟩
  refine ⟨_, rfl, rfl, _, rfl, ?_⟩
  refine ite2 (fun c => ?_) (fun c => ?_)
  · have hn : n ≠ 0 := by
      intro z
      subst z
      simp at c
    have h1 : (m : Int) % (n : Int) = ((m % n : Nat) : Int) := (Int.natCast_emod m n).symm
    refine ⟨fun σ' H' => H = H' ∧ σ' = [some (.int a), some (.int b), some (.int n), some (.int ((m : Int) % (n : Int))), some (.int ((m : Int) % (n : Int)))], ?_, ?_⟩
    · rintro _ _ ⟨rfl, rfl⟩
      rw [h1]
      exact ⟨m % n, Nat.mod_lt _ (by omega), rfl, n, _, rfl, by rw [Fr.gcd_turn, e]⟩
    · exact ⟨_, rfl, _, rfl, _, _, rfl, rfl, (by show (0 : Int) < (n : Int); omega), _, rfl, _, rfl, rfl, rfl⟩
  · have hn : n = 0 := by
      by_cases z : n = 0
      · exact z
      · exfalso
        apply c
        rw [decI]
        simp
        omega
    subst hn
    refine ⟨_, rfl, ?_⟩
    have e2 : (m : Int) = Fr.gcd a b := by
      unfold Fr.gcd
      rw [← e, Nat.gcd_zero_right]
    rw [e2]
    exact q
theorem c_is_ratio_any (T : Txt K mg ad) : CalB P w K mg base true 2 "is_ratio" ["thing"] (spRat K) := by
  have C_is_whole := c_is_whole (P := P) (w := w) (base := base) T
  have C_common_divisor := c_common_divisor (P := P) (w := w) (base := base) T
  refine T.t_is_ratio.calN sc_is_ratio (fun _ _ _ _ _ _ => by1 fun _ => rfl) (fun vs H Q E h => ?_) (fun f cdv A outer s H vs Q E hr h => ?_)
  · obtain ⟨_, _, rfl, _⟩ := h; rfl
  obtain ⟨v, d, rfl, hv, q⟩ := h
  refine ⟨_, (pss_cons (ps_if (PW.pt (pw_or (pt_not (pt_val (pe_callB call_isiD rfl T.isinstance bt_isinstance (pa_name (pv 0) (pa_name (pe_bltn (v := .ty "tuple") rfl T.tuple bt_tuple rfl) pa_nil))))) (pw_or1 (pt_cmpR op_ne (pe_callB call_len_seq rfl T.len bt_len (pa_name (pv 0) pa_nil)) pe_int (nomark _))))) (pss_one (ps_ret pe_bl)) pss_nil) (pss_cons (ps_set (i := 1) sc_is_ratio.nd rfl (Or.inl rfl) (pe_ix ix_tup (pv 0) pe_int (fun _ _ => rfl))) (pss_cons (ps_set (i := 2) sc_is_ratio.nd rfl (Or.inl rfl) (pe_ix ix_tup (pv 0) pe_int (fun _ _ => rfl))) (pss_cons (ps_if (PW.pt (pw_or (pt_not (pt_val (pe_cB C_is_whole (hr.mono (by decide)) pass01 (pa_name (pv 1) pa_nil)))) (pw_or1 (pt_not (pt_val (pe_cB C_is_whole (hr.mono (by decide)) pass01 (pa_name (pv 2) pa_nil))))))) (pss_one (ps_ret pe_bl)) pss_nil) (pss_one (ps_ret (pe_and (pe_cmpR op_ge (pv 2) pe_int (nomark _)) (pe_one (pe_cmpR op_eq (pe_cB C_common_divisor (hr.mono (by decide)) pass01 (pa_name (pv 1) (pa_name (pv 2) pa_nil))) pe_int (nomark _)))))))))), ?_⟩
  refine ⟨_, rfl, _, _, _, _, rfl, hv, isTup_b d, _, rfl, ?_⟩
  cases ht : isTupD d with
  | false =>
    refine iteT (iteT ?_)
    rw [ratD_no ht] at q
    exact q
  | true =>
    obtain ⟨ds, rfl⟩ := isTup_of ht
    obtain ⟨a, xs, rfl, ha, hds⟩ := hv.tup_of
    refine iteF ?_
    refine ⟨_, rfl, a, _, rfl, .inr ha, rfl, _, rfl, ?_⟩
    by_cases hl : ds.length = 2
    · obtain ⟨d1, d2, rfl⟩ : ∃ d1 d2, ds = [d1, d2] := by
        match ds, hl with
        | [d1, d2], _ => exact ⟨d1, d2, rfl⟩
      obtain ⟨x, y, rfl, hx, hy⟩ := hds.two
      refine iteF ?_
      refine ⟨_, rfl, a, _, _, _, rfl, rfl, ha, rfl, ?_⟩
      refine ⟨_, rfl, a, _, _, _, rfl, rfl, ha, rfl, ?_⟩
      refine ⟨_, rfl, _, _, rfl, hx, _, rfl, ?_⟩
      cases h1 : isIntD d1 with
      | false =>
        refine iteT (iteT ?_)
        rw [ratD_two (.inl h1)] at q
        exact q
      | true =>
        refine iteF ?_
        refine ⟨_, rfl, _, _, rfl, hy, _, rfl, ?_⟩
        cases h2 : isIntD d2 with
        | false =>
          refine iteT ?_
          rw [ratD_two (.inr h2)] at q
          exact q
        | true =>
          obtain ⟨i, rfl⟩ := isInt_of h1
          obtain ⟨j, rfl⟩ := isInt_of h2
          obtain rfl := hx.int_of
          obtain rfl := hy.int_of
          refine iteF ?_
          refine ⟨_, rfl, _, _, rfl, rfl, _, rfl, ?_⟩
          have q' : Q (.bl (decide (1 ≤ j) && decide (Fr.gcd i j = 1))) H := q
          refine ite2 (fun c => ?_) (fun c => ?_)
          · have c' : decide (1 ≤ j) = true := c
            rw [c', Bool.true_and] at q'
            refine ⟨_, rfl, _, rfl, i, j, rfl, rfl, ?_⟩
            show Q (.bl (decide (V.int (Fr.gcd i j) = V.int 1))) H
            rw [decI]
            exact q'
          · have c' : decide (1 ≤ j) = false := Bool.eq_false_iff.mpr c
            rw [c', Bool.false_and] at q'
            exact q'
    · have e : decide (V.int ((xs.length : Nat) : Int) = V.int 2) = false := by
        rw [decI]
        exact decide_eq_false (by have := hds.len; omega)
      show if (!decide (V.int ((xs.length : Nat) : Int) = V.int 2)) = true then _ else _
      rw [e]
      refine iteT ?_
      rw [ratD_len hl] at q
      exact q
theorem c_is_less (T : Txt K mg ad) : CalB P w K mg base true 1 "is_less" ["one", "other"] (PR K RLess) := by
  refine T.t_is_less.calN sc_is_less (fun _ _ _ _ _ _ => by2 fun _ _ => rfl) (fun vs H Q E h => ?_) (fun f cdv A outer s H vs Q E hr h => ?_)
  · obtain ⟨_, _, dv, ⟨_, _, rfl, _⟩, _⟩ := h; exact dv.len
  obtain ⟨_, _, dv, ⟨p, q, rfl, sp, sq, rfl⟩, k⟩ := h
  obtain ⟨_, _, rfl, hx, hy⟩ := dv.two
  obtain ⟨a, rfl, ha⟩ := hx.fr
  obtain ⟨b, rfl, hb⟩ := hy.fr
  refine ⟨_, (pss_one (ps_ret (pe_cmpR op_lt (pe_op op_mulW (pe_ix ix_tup (pv 0) pe_int (fun _ _ => rfl)) (pe_ix ix_tup (pv 1) pe_int (fun _ _ => rfl))) (pe_op op_mulW (pe_ix ix_tup (pv 1) pe_int (fun _ _ => rfl)) (pe_ix ix_tup (pv 0) pe_int (fun _ _ => rfl))) (nomark _)))), ?_⟩
  refine ⟨_, rfl, a, _, _, _, rfl, rfl, ha, rfl, _, rfl, b, _, _, _, rfl, rfl, hb, rfl, _, _, rfl, rfl, mulW sp.n sq.dn, ?_⟩
  refine ⟨_, rfl, b, _, _, _, rfl, rfl, hb, rfl, _, rfl, a, _, _, _, rfl, rfl, ha, rfl, _, _, rfl, rfl, mulW sq.n sp.dn, _, _, rfl, rfl, ?_⟩
  have e : decide (p.num * (q.den : Int) < q.num * (p.den : Int)) = decide (p < q) := decide_eq_decide.mpr (Fr.lt_rat p q)
  show Q (.bl (decide (p.num * (q.den : Int) < q.num * (p.den : Int)))) H
  rw [e]
  exact k _ _ (Same.refl _) (.bl _)
end
end K07
namespace K07
open PySem L2 Lib Fr Op
seal PE PT PW PA PS PSs PG PGs PI PO PIfs
section
variable {P : Program} {w : World} {K : PySem.W.Frag} {mg : Str → Option Value} {base : Heap} {ad : Adr} {c : Bool}
theorem k_Gap (T : Txt K mg ad) : MkC P w K mg base 1 "Gap" ad.Gap ["self", "length"] (spInit1 ad.Gap "length") := by
  refine T.ex.i_Gap.mkc sc_Gap_init (fun _ _ _ _ _ _ => by2 fun _ _ => rfl) (fun vs H Q E h => ?_) (fun f cdv A outer s H vs Q E hr h => ?_)
  · obtain ⟨a, dx, x, rfl, _⟩ := h; rfl
  obtain ⟨a, dx, x, rfl, ha, q⟩ := h
  refine ⟨_, (pss_one (ps_fldB (pv 0) (pv 1))), ?_⟩
  exact ⟨_, rfl, _, rfl, a, ad.Gap, dx, [], rfl, ha, T.ex.l_Gap, T.ex.n_Gap_length, by decide, q⟩
theorem k_Glass (T : Txt K mg ad) : MkC P w K mg base 1 "Glass" ad.Glass ["self", "strength"] (spInit1 ad.Glass "strength") := by
  refine T.ex.i_Glass.mkc sc_Glass_init (fun _ _ _ _ _ _ => by2 fun _ _ => rfl) (fun vs H Q E h => ?_) (fun f cdv A outer s H vs Q E hr h => ?_)
  · obtain ⟨a, dx, x, rfl, _⟩ := h; rfl
  obtain ⟨a, dx, x, rfl, ha, q⟩ := h
  refine ⟨_, (pss_one (ps_fldB (pv 0) (pv 1))), ?_⟩
  exact ⟨_, rfl, _, rfl, a, ad.Glass, dx, [], rfl, ha, T.ex.l_Glass, T.ex.n_Glass_strength, by decide, q⟩
theorem k_Stop (T : Txt K mg ad) : MkC P w K mg base 1 "Stop" ad.Stop ["self", "low", "high"] (spInit2 ad.Stop "low" "high") := by
  refine T.ex.i_Stop.mkc sc_Stop_init (fun _ _ _ _ _ _ => by3 fun _ _ _ => rfl) (fun vs H Q E h => ?_) (fun f cdv A outer s H vs Q E hr h => ?_)
  · obtain ⟨a, dx, x, y, rfl, _⟩ := h; rfl
  obtain ⟨a, dx, x, y, rfl, ha, q⟩ := h
  refine ⟨_, (pss_cons (ps_fldB (pv 0) (pv 1)) (pss_one (ps_fldB (pv 0) (pv 2)))), ?_⟩
  refine ⟨_, rfl, _, rfl, a, ad.Stop, dx, [], rfl, ha, T.ex.l_Stop, T.ex.n_Stop_low, by decide, ?_⟩
  refine ⟨_, rfl, _, rfl, a, ad.Stop, dx, _, rfl, upd_same, T.ex.l_Stop, T.ex.n_Stop_high, (by show 1 < 1000; decide), ?_⟩
  rw [upd_upd]
  exact q
theorem c_piece_of (T : Txt K mg ad) : CalB P w K mg base true 3 "piece_of" ["told"] (spPc K ad.Gap ad.Glass ad.Stop) := by
  have M_Gap := k_Gap (P := P) (w := w) (base := base) T
  have M_Glass := k_Glass (P := P) (w := w) (base := base) T
  have M_Stop := k_Stop (P := P) (w := w) (base := base) T
  refine T.t_piece_of.calN sc_piece_of (fun _ _ _ _ _ _ => by1 fun _ => rfl) (fun vs H Q E h => ?_) (fun f cdv A outer s H vs Q E hr h => ?_)
  · obtain ⟨v, p, rfl, _⟩ := h; rfl
  obtain ⟨v, p, rfl, hv, q⟩ := h
  refine ⟨_, (pss_cons (ps_if (pt_cmpR op_eq (pe_ix ix_tup (pv 0) pe_int (fun _ _ => rfl)) (pe_glob (v := .str "gap") rfl T.ex.m_GAP ⟨_, rfl⟩) (nomark _)) (pss_one (ps_ret (pe_mkB M_Gap (hr.mono (by decide)) (pa_sub (pe_ix ix_tup (pv 0) pe_int (fun _ _ => rfl)) pa_nil)))) pss_nil) (pss_cons (ps_if (pt_cmpR op_eq (pe_ix ix_tup (pv 0) pe_int (fun _ _ => rfl)) (pe_glob (v := .str "glass") rfl T.ex.m_GLASS ⟨_, rfl⟩) (nomark _)) (pss_one (ps_ret (pe_mkB M_Glass (hr.mono (by decide)) (pa_sub (pe_ix ix_tup (pv 0) pe_int (fun _ _ => rfl)) pa_nil)))) pss_nil) (pss_one (ps_ret (pe_mkB M_Stop (hr.mono (by decide)) (pa_sub (pe_ix ix_tup (pv 0) pe_int (fun _ _ => rfl)) (pa_sub (pe_ix ix_tup (pv 0) pe_int (fun _ _ => rfl)) pa_nil))))))), ?_⟩
  cases p with
  | gap d =>
    obtain ⟨a, x, y, rfl, ha, hx, hy⟩ := DV.t2 hv
    obtain rfl := hx.str_of
    refine ⟨_, rfl, a, _, _, _, rfl, rfl, ha, rfl, rfl, _, rfl, iteT' (by decide) ?_⟩
    refine ⟨_, rfl, a, _, _, _, rfl, rfl, ha, rfl, fun o dx ho hdx hne => ⟨o, dx, y, rfl, upd_same, rfl, ?_⟩⟩
    have s1 : Same H (upd H dx (.own o)) := same_new hdx _
    have ho' : upd H dx (.own o) o = none := by rw [upd_ne (Ne.symm hne)]; exact ho
    have s2 := s1.trans (same_new ho' (.ins ad.Gap dx [("length", y)]))
    rw [upd_upd]
    exact q _ _ s2 (.gap upd_same (hy.keep s2))
  | glass d =>
    obtain ⟨a, x, y, rfl, ha, hx, hy⟩ := DV.t2 hv
    obtain rfl := hx.str_of
    refine ⟨_, rfl, a, _, _, _, rfl, rfl, ha, rfl, rfl, _, rfl, iteF' (by decide) ?_⟩
    refine ⟨_, rfl, a, _, _, _, rfl, rfl, ha, rfl, rfl, _, rfl, iteT' (by decide) ?_⟩
    refine ⟨_, rfl, a, _, _, _, rfl, rfl, ha, rfl, fun o dx ho hdx hne => ⟨o, dx, y, rfl, upd_same, rfl, ?_⟩⟩
    have s1 : Same H (upd H dx (.own o)) := same_new hdx _
    have ho' : upd H dx (.own o) o = none := by rw [upd_ne (Ne.symm hne)]; exact ho
    have s2 := s1.trans (same_new ho' (.ins ad.Glass dx [("strength", y)]))
    rw [upd_upd]
    exact q _ _ s2 (.glass upd_same (hy.keep s2))
  | stop lo hi =>
    obtain ⟨a, x, y, z, rfl, ha, hx, hy, hz⟩ := DV.t3 hv
    obtain rfl := hx.str_of
    refine ⟨_, rfl, a, _, _, _, rfl, rfl, ha, rfl, rfl, _, rfl, iteF' (by decide) ?_⟩
    refine ⟨_, rfl, a, _, _, _, rfl, rfl, ha, rfl, rfl, _, rfl, iteF' (by decide) ?_⟩
    refine ⟨_, rfl, a, _, _, _, rfl, rfl, ha, rfl, _, rfl, a, _, _, _, rfl, rfl, ha, rfl, fun o dx ho hdx hne => ⟨o, dx, y, z, rfl, upd_same, rfl, ?_⟩⟩
    have s1 : Same H (upd H dx (.own o)) := same_new hdx _
    have ho' : upd H dx (.own o) o = none := by rw [upd_ne (Ne.symm hne)]; exact ho
    have s2 := s1.trans (same_new ho' (.ins ad.Stop dx [("low", y), ("high", z)]))
    rw [upd_upd]
    exact q _ _ s2 (.stop upd_same (hy.keep s2) (hz.keep s2))
end
end K07
namespace K07
open PySem L2 Lib Fr Op
seal PE PT PW PA PS PSs PG PGs PI PO PIfs
section
variable {P : Program} {w : World} {K : PySem.W.Frag} {mg : Str → Option Value} {base : Heap} {ad : Adr} {c : Bool}
theorem mc_Gap_told (T : Txt K mg ad) : MC P w K mg base 4 ad.Gap "told" ["self"] (spTold K ad.Gap ad.Glass ad.Stop isGap) := by
  refine T.ex.q_Gap_told.mc sc_Gap_told (fun _ _ _ _ _ _ => by1 fun _ => rfl) (fun vs H Q E h => ?_) (fun f cdv A outer s H vs Q E hr h => ?_)
  · obtain ⟨_, _, rfl, _⟩ := h; rfl
  obtain ⟨o, p, rfl, hc, ho, k⟩ := h
  cases ho with
  | glass _ _ => exact hc.elim
  | stop _ _ _ => exact hc.elim
  | @gap a dx x1 d ha h1 =>
    refine ⟨_, (pss_one (ps_ret (pe_tup (pa_name (pe_glob (v := .str "gap") rfl T.ex.m_GAP ⟨_, rfl⟩) (pa_cons (pe_fldB (pv 0)) pa_nil))))), ?_⟩
    refine ⟨_, rfl, a, _, _, _, _, rfl, ha, T.ex.l_Gap, T.ex.n_Gap_length, rfl, (by show 2 ≤ sizeLine; decide), fun t ht => ?_⟩
    exact k _ _ (same_new ht _) (DV.upd2 ht (.str _) h1)
theorem mc_Glass_told (T : Txt K mg ad) : MC P w K mg base 4 ad.Glass "told" ["self"] (spTold K ad.Gap ad.Glass ad.Stop isGlass) := by
  refine T.ex.q_Glass_told.mc sc_Glass_told (fun _ _ _ _ _ _ => by1 fun _ => rfl) (fun vs H Q E h => ?_) (fun f cdv A outer s H vs Q E hr h => ?_)
  · obtain ⟨_, _, rfl, _⟩ := h; rfl
  obtain ⟨o, p, rfl, hc, ho, k⟩ := h
  cases ho with
  | gap _ _ => exact hc.elim
  | stop _ _ _ => exact hc.elim
  | @glass a dx x1 d ha h1 =>
    refine ⟨_, (pss_one (ps_ret (pe_tup (pa_name (pe_glob (v := .str "glass") rfl T.ex.m_GLASS ⟨_, rfl⟩) (pa_cons (pe_fldB (pv 0)) pa_nil))))), ?_⟩
    refine ⟨_, rfl, a, _, _, _, _, rfl, ha, T.ex.l_Glass, T.ex.n_Glass_strength, rfl, (by show 2 ≤ sizeLine; decide), fun t ht => ?_⟩
    exact k _ _ (same_new ht _) (DV.upd2 ht (.str _) h1)
theorem mc_Stop_told (T : Txt K mg ad) : MC P w K mg base 4 ad.Stop "told" ["self"] (spTold K ad.Gap ad.Glass ad.Stop isStop) := by
  refine T.ex.q_Stop_told.mc sc_Stop_told (fun _ _ _ _ _ _ => by1 fun _ => rfl) (fun vs H Q E h => ?_) (fun f cdv A outer s H vs Q E hr h => ?_)
  · obtain ⟨_, _, rfl, _⟩ := h; rfl
  obtain ⟨o, p, rfl, hc, ho, k⟩ := h
  cases ho with
  | gap _ _ => exact hc.elim
  | glass _ _ => exact hc.elim
  | @stop a dx x1 x2 lo hi ha h1 h2 =>
    refine ⟨_, (pss_one (ps_ret (pe_tup (pa_name (pe_glob (v := .str "stop") rfl T.ex.m_STOP ⟨_, rfl⟩) (pa_cons (pe_fldB (pv 0)) (pa_cons (pe_fldB (pv 0)) pa_nil)))))), ?_⟩
    refine ⟨_, rfl, a, _, _, _, _, rfl, ha, T.ex.l_Stop, T.ex.n_Stop_low, rfl, _, rfl, a, _, _, _, _, rfl, ha, T.ex.l_Stop, T.ex.n_Stop_high, rfl, (by show 3 ≤ sizeLine; decide), fun t ht => ?_⟩
    exact k _ _ (same_new ht _) (DV.upd3 ht (.str _) h1 h2)
theorem ob_told (T : Txt K mg ad) {H : Hp} {v : V} {p : Pc} (h : ObAt K ad.Gap ad.Glass ad.Stop H v p) :
    ∃ (a C dx : Addr) (fs : List (Str × V)) (ps : List Str) (sp : Sp), v = .ref a ∧ H a = some (.ins C dx fs) ∧ fs.lookup ("told" : Str) = none ∧ MC P w K mg base 4 C "told" ps sp ∧ ∀ Q : VK, (∀ v H', Same H H' → DV K H' v (pcD p) → Q v H') → sp [v] H Q E0 := by
  cases id h with
  | gap ha hx => exact ⟨_, _, _, _, _, _, rfl, ha, rfl, mc_Gap_told T, fun Q k => ⟨_, .gap _, rfl, trivial, h, k⟩⟩
  | glass ha hx => exact ⟨_, _, _, _, _, _, rfl, ha, rfl, mc_Glass_told T, fun Q k => ⟨_, .glass _, rfl, trivial, h, k⟩⟩
  | stop ha hx hz => exact ⟨_, _, _, _, _, _, rfl, ha, rfl, mc_Stop_told T, fun Q k => ⟨_, .stop _ _, rfl, trivial, h, k⟩⟩
end
end K07
namespace K07
open PySem L2 Lib Fr Op
seal PE PT PW PA PS PSs PG PGs PI PO PIfs
section
variable {P : Program} {w : World} {K : PySem.W.Frag} {mg : Str → Option Value} {base : Heap} {ad : Adr} {c : Bool}
theorem c__law_cell_at (T : Txt K mg ad) : CalB P w K mg base true 1 "_law_cell_at" ["_law_script", "_law_k"] (spCell K) := by
  refine T.t__law_cell_at.calN sc__law_cell_at (fun _ _ _ _ _ _ => by2 fun _ _ => rfl) (fun vs H Q E h => ?_) (fun f cdv A outer s H vs Q E hr h => ?_)
  · obtain ⟨_, _, _, rfl, _⟩ := h; rfl
  obtain ⟨a, ns, k, rfl, hS, k0, q⟩ := h
  refine ⟨_, (pss_cons (ps_if (pt_cmpR op_lt (pv 1) (pe_callB call_len_seq rfl T.len bt_len (pa_name (pv 0) pa_nil)) (nomark _)) (pss_one (ps_ret (pe_ix ix_list (pv 0) (pv 1) (fun _ _ => rfl)))) pss_nil) (pss_one (ps_ret pe_int))), ?_⟩
  refine ⟨_, rfl, _, rfl, a, _, rfl, .inl hS, _, _, rfl, rfl, _, rfl, ?_⟩
  refine ite2 (fun hc => ?_) (fun _ => q 0)
  have hc : k < (((ns.map V.int).length : Nat) : Int) := of_decide_eq_true hc
  obtain ⟨v, hv, hm⟩ := atI_in (xs := ns.map V.int) k0 hc
  obtain ⟨z, _, rfl⟩ := List.mem_map.mp hm
  exact ⟨_, rfl, _, rfl, a, _, _, _, rfl, rfl, hS, hv, q z⟩
theorem c__law_drawn (T : Txt K mg ad) : CalB P w K mg base true 1 "_law_drawn" ["_law_script", "_law_start"] (spDrawn K) := by
  refine T.t__law_drawn.calN sc__law_drawn (fun _ _ _ _ _ _ => by2 fun _ _ => rfl) (fun vs H Q E h => ?_) (fun f cdv A outer s H vs Q E hr h => ?_)
  · obtain ⟨_, _, _, rfl, _⟩ := h; rfl
  obtain ⟨a, ns, st, rfl, hS, q⟩ := h
  refine ⟨_, (pss_one (ps_ret (pe_lst (pa_name (pv 1) (pa_bin (pe_op op_cat (pe_slice sl_list (pv 0) po_none (po_some pe_int)) (pe_lst (pa_name (pv 1) pa_nil))) (pa_const pe_int pa_nil)))))), ?_⟩
  have z1 := cutV_le0 (ns.map V.int) 60
  change (cutV (ns.map V.int) none (some 60)).length ≤ _ at z1
  have i1 := cut_ints ns none (some 60)
  refine ⟨_, rfl, _, rfl, _, rfl, a, _, rfl, hS, fun p hp => ?_⟩
  generalize cutV (ns.map V.int) none (some 60) = L1 at z1 i1 ⊢
  have u1 := same_new hp (.lst L1)
  refine ⟨_, rfl, (by show 1 ≤ sizeLine; decide), fun p2 hp2 => ?_⟩
  have u2 := same_new hp2 (.lst [.int st])
  refine ⟨p, p2, _, _, rfl, rfl, u2 _ _ upd_same, upd_same, Nat.le_of_lt (small1000 (by simp only [List.length_cons, List.length_nil]; omega)), fun p3 hp3 => ?_⟩
  have u3 := same_new hp3 (.lst (L1 ++ [.int st]))
  refine ⟨(by show 3 ≤ sizeLine; decide), fun p4 hp4 => ?_⟩
  have u4 := same_new hp4 (.lst [.int st, .ref p3, .int 0])
  have u14 := u1.trans (u2.trans (u3.trans u4))
  refine q p4 p3 (L1 ++ [.int st]) _ u14 ((u1.trans (u2.trans u3)).free hp4) ⟨⟨st, 0, by decide, upd_same⟩, u4 _ _ upd_same, fun x hx => ?_, by rw [List.length_append]; simp, by rw [List.length_append]; simp only [List.length_cons, List.length_nil]; omega⟩
  rcases List.mem_append.mp hx with h | h
  · exact i1 x h
  · exact ⟨st, List.mem_singleton.mp h⟩
theorem c__law_draw (T : Txt K mg ad) : CalB P w K mg base true 1 "_law_draw" ["_law_drawn_here", "_law_many"] spDraw := by
  refine T.t__law_draw.calN sc__law_draw (fun _ _ _ _ _ _ => by2 fun _ _ => rfl) (fun vs H Q E h => ?_) (fun f cdv A outer s H vs Q E hr h => ?_)
  · obtain ⟨_, _, _, _, rfl, _⟩ := h; rfl
  obtain ⟨d, c, L, m, rfl, hd, m0, q⟩ := h
  obtain ⟨a, n, n0, hdd⟩ := hd.d
  have ncd := hd.ne
  refine ⟨_, (pss_cons (ps_set (i := 2) sc__law_draw.nd rfl (Or.inl rfl) (pe_ix ix_list (pv 0) pe_int (fun _ _ => rfl))) (pss_cons (ps_asg (pe_op op_add (pe_ix ix_list (pv 0) pe_int (fun _ _ => rfl)) pe_int) (pg_sub (pv 0) pe_int set_list)) (pss_cons (ps_set (i := 3) sc__law_draw.nd rfl (Or.inl rfl) (pe_op op_add (pe_op op_mul (pe_ix ix_list (pv 0) pe_int (fun _ _ => rfl)) pe_int) (pe_op op_mod (pe_ix ix_list (pv 2) (pe_op op_mod (pe_ix ix_list (pv 0) pe_int (fun _ _ => rfl)) (pe_callB call_len_seq rfl T.len bt_len (pa_name (pv 2) pa_nil))) (fun _ _ => rfl)) pe_int))) (pss_cons (ps_asg (pe_op op_mod (pe_op op_add (pv 3) (pe_ix ix_list (pv 0) pe_int (fun _ _ => rfl))) pe_int) (pg_sub (pv 0) pe_int set_list)) (pss_one (ps_ret (pe_op op_mod (pe_op op_fdiv (pe_ix ix_list (pv 0) pe_int (fun _ _ => rfl)) pe_int) (pv 1)))))))), ?_⟩
  refine ⟨_, rfl, d, _, _, _, rfl, rfl, SqL.of hdd, rfl, ?_⟩
  refine ⟨_, rfl, d, _, _, _, rfl, rfl, SqL.of hdd, rfl, _, _, rfl, rfl, _, rfl, d, _, _, 2, rfl, rfl, hdd, rfl, ?_⟩
  have h1 : upd H d (.lst [.int a, .ref c, .int (n + 1)]) d = some (.lst [.int a, .ref c, .int (n + 1)]) := upd_same
  have hc1 : upd H d (.lst [.int a, .ref c, .int (n + 1)]) c = some (.lst L) := by rw [upd_ne ncd]; exact hd.c
  have e1 : upd H d (.lst ([V.int a, .ref c, .int n].set 2 (.int (n + 1)))) = upd H d (.lst [.int a, .ref c, .int (n + 1)]) := rfl
  have s1 : SD d H (upd H d (.lst [.int a, .ref c, .int (n + 1)])) := sd_upd
  refine ⟨_, rfl, d, _, _, _, rfl, rfl, SqL.of h1, rfl, _, _, rfl, rfl, .inr ⟨by decide, by decide⟩, ?_⟩
  have lp : (0 : Int) < ((L.length : Nat) : Int) := by have := hd.l; omega
  have m1 := Int.emod_nonneg (n + 1) (show ((L.length : Nat) : Int) ≠ 0 by omega)
  have m2 := Int.emod_lt_of_pos (n + 1) lp
  obtain ⟨v, hv, hm⟩ := atI_in (xs := L) m1 m2
  obtain ⟨z, rfl⟩ := hd.i v hm
  refine ⟨_, rfl, _, rfl, d, _, _, _, rfl, rfl, SqL.of h1, rfl, _, rfl, c, _, rfl, .inl (SqL.of hc1), _, _, rfl, rfl, lp, c, _, _, _, rfl, rfl, SqL.of hc1, hv, ?_⟩
  refine ⟨_, _, rfl, rfl, (by show (0 : Int) < 2147483647; decide), _, _, rfl, rfl, ?_⟩
  refine ⟨_, rfl, _, rfl, d, _, _, _, rfl, rfl, SqL.of h1, rfl, _, _, rfl, rfl, _, _, rfl, rfl, (by show (0 : Int) < 2147483629; decide), _, rfl, d, _, _, 0, rfl, rfl, h1, rfl, ?_⟩
  have h2 : ∀ x : Int, DrA (upd (upd H d (.lst [.int a, .ref c, .int (n + 1)])) d (.lst [.int x, .ref c, .int (n + 1)])) d c L := fun x => ⟨⟨x, n + 1, by omega, upd_same⟩, by rw [upd_ne ncd]; exact hc1, hd.i, hd.l, hd.m⟩
  refine ⟨_, rfl, d, _, _, _, rfl, rfl, SqL.of upd_same, rfl, _, _, rfl, rfl, ⟨by decide, by decide⟩, _, rfl, _, _, rfl, rfl, m0, ?_⟩
  exact q _ _ (Int.emod_nonneg _ (by omega)) (Int.emod_lt_of_pos _ m0) (h2 _) (s1.trans sd_upd)
theorem c__law_low (T : Txt K mg ad) : CalB P w K mg base true 1 "_law_low" ["_law_top", "_law_bottom"] spLowP := by
  refine T.t__law_low.calN sc__law_low (fun _ _ _ _ _ _ => by2 fun _ _ => rfl) (fun vs H Q E h => ?_) (fun f cdv A outer s H vs Q E hr h => ?_)
  · obtain ⟨a, b, rfl, _⟩ := h; rfl
  obtain ⟨a, b, rfl, bp, bs, q⟩ := h
  have b0 : b ≠ 0 := by omega
  refine ⟨_, (pss_cons (ps_set (i := 2) sc__law_low.nd rfl (Or.inl rfl) (pe_callB call_abs rfl T.abs bt_abs (pa_name (pv 0) pa_nil))) (pss_cons (ps_set (i := 3) sc__law_low.nd rfl (Or.inl rfl) (pv 1)) (pss_cons (ps_while PassesOwn.never (pt_cmpR op_gt (pv 3) pe_int (nomark _)) (pss_one (ps_par (i := 2) (j := 3) rfl sc__law_low.nd rfl rfl (by decide) rfl rfl (pa_name (pv 3) (pa_bin (pe_op op_mod (pv 2) (pv 3)) pa_nil)) rfl))) (pss_one (ps_ret (pe_tup (pa_bin (pe_op op_fdivW (pv 0) (pv 2)) (pa_bin (pe_op op_fdivW (pv 1) (pv 2)) pa_nil)))))))), ?_⟩
  refine ⟨_, rfl, _, rfl, _, rfl, ?_⟩
  have ea := Fr.absE a
  have eb : b = (b.natAbs : Int) := by omega
  refine ⟨fun k σ H' => H = H' ∧ ∃ (m : Nat), σ = [some (.int a), some (.int b), some (.int m), some (.int k)] ∧ Nat.gcd m k = Nat.gcd a.natAbs b.natAbs, ⟨b.natAbs, rfl, a.natAbs, by rw [← ea, ← eb]; rfl, rfl⟩, ?_⟩
  rintro n _ _ ⟨rfl, m, rfl, e⟩
  refine ⟨_, rfl, _, _, rfl, rfl, _, rfl, ?_⟩
  refine ite2 (fun c => ?_) (fun c => ?_)
  · have hn : n ≠ 0 := by
      intro z
      subst z
      simp at c
    have h1 : (m : Int) % (n : Int) = ((m % n : Nat) : Int) := (Int.natCast_emod m n).symm
    refine ⟨fun σ' H' => H = H' ∧ σ' = [some (.int a), some (.int b), some (.int n), some (.int ((m : Int) % (n : Int)))], ?_, ?_⟩
    · rintro _ _ ⟨rfl, rfl⟩
      rw [h1]
      exact ⟨m % n, Nat.mod_lt _ (by omega), rfl, n, rfl, by rw [Fr.gcd_turn, e]⟩
    · exact ⟨_, rfl, _, rfl, _, rfl, _, _, rfl, rfl, (by show (0 : Int) < (n : Int); omega), _, _, rfl, rfl, rfl⟩
  · have hn : n = 0 := by
      by_cases z : n = 0
      · exact z
      · exfalso
        apply c
        exact decide_eq_true (by omega)
    subst hn
    have e2 : (m : Int) = Fr.gcd a b := by
      unfold Fr.gcd
      rw [← e, Nat.gcd_zero_right]
    have gl := Fr.gcd_le (a := a) b0
    have gn := Fr.gcd_nn a b
    have eg : (m : Int) = Fr.sg a b := by
      unfold Fr.sg
      rw [if_neg (by omega), e2]
    have gs : (m : Int).natAbs.log2 < 9000 := by
      have h2 : (m : Int).natAbs < lim := by omega
      exact lim_log h2
    have ne : (m : Int) ≠ 0 := by rw [eg]; exact Fr.sg_ne b0
    refine ⟨_, rfl, _, rfl, _, _, rfl, rfl, ⟨ne, gs⟩, _, rfl, _, rfl, _, _, rfl, rfl, ⟨ne, gs⟩, (by show 2 ≤ sizeLine; decide), fun p hp => ?_⟩
    rw [eg]
    exact q p hp
theorem c__law_under (T : Txt K mg ad) : CalB P w K mg base true 1 "_law_under" ["_law_one", "_law_other"] (PR K RLess) := by
  refine T.t__law_under.calN sc__law_under (fun _ _ _ _ _ _ => by2 fun _ _ => rfl) (fun vs H Q E h => ?_) (fun f cdv A outer s H vs Q E hr h => ?_)
  · obtain ⟨_, _, dv, ⟨_, _, rfl, _⟩, _⟩ := h; exact dv.len
  obtain ⟨_, _, dv, ⟨p, q, rfl, sp, sq, rfl⟩, k⟩ := h
  obtain ⟨_, _, rfl, hx, hy⟩ := dv.two
  obtain ⟨a, rfl, ha⟩ := hx.fr
  obtain ⟨b, rfl, hb⟩ := hy.fr
  refine ⟨_, (pss_one (ps_ret (pe_cmpR op_lt (pe_op op_mulW (pe_ix ix_tup (pv 0) pe_int (fun _ _ => rfl)) (pe_ix ix_tup (pv 1) pe_int (fun _ _ => rfl))) (pe_op op_mulW (pe_ix ix_tup (pv 1) pe_int (fun _ _ => rfl)) (pe_ix ix_tup (pv 0) pe_int (fun _ _ => rfl))) (nomark _)))), ?_⟩
  refine ⟨_, rfl, a, _, _, _, rfl, rfl, ha, rfl, _, rfl, b, _, _, _, rfl, rfl, hb, rfl, _, _, rfl, rfl, mulW sp.n sq.dn, ?_⟩
  refine ⟨_, rfl, b, _, _, _, rfl, rfl, hb, rfl, _, rfl, a, _, _, _, rfl, rfl, ha, rfl, _, _, rfl, rfl, mulW sq.n sp.dn, _, _, rfl, rfl, ?_⟩
  have e : decide (p.num * (q.den : Int) < q.num * (p.den : Int)) = decide (p < q) := decide_eq_decide.mpr (Fr.lt_rat p q)
  show Q (.bl (decide (p.num * (q.den : Int) < q.num * (p.den : Int)))) H
  rw [e]
  exact k _ _ (Same.refl _) (.bl _)
theorem c__law_part (T : Txt K mg ad) : CalB P w K mg base true 2 "_law_part" ["_law_drawn_here", "_law_far"] (spDPart K) := by
  have C__law_draw := c__law_draw (P := P) (w := w) (base := base) T
  have C__law_low := c__law_low (P := P) (w := w) (base := base) T
  refine T.t__law_part.calN sc__law_part (fun _ _ _ _ _ _ => by2 fun _ _ => rfl) (fun vs H Q E h => ?_) (fun f cdv A outer s H vs Q E hr h => ?_)
  · obtain ⟨_, _, _, _, rfl, _⟩ := h; rfl
  obtain ⟨d, c, L, far, rfl, hd, q⟩ := h
  have p15 : CPow 10 15 := ⟨by decide, by decide, by decide⟩
  have t15 : (10 : Int) ^ (15 : Int).toNat = 1000000000000000 := by decide
  have p50 : (2 : Nat) ^ 50 = 1125899906842624 := by decide
  obtain ⟨tR, hR, kR⟩ : ∃ t, PSs (cxB true P w K mg base ["_law_drawn_here", "_law_far", "_law_top", "_law_bottom"] "_law_part" (defScope s__law_part) f cdv A outer s H E).nox ((defBody s__law_part).drop 1) t ∧ ∀ (D : Ends) (c2 c3 : Option V) (H1 : Hp), DrA H1 d c L → SD d H H1 → (∀ v H' q, DrA H' d c L → SD d H H' → DV K H' v (frD q) → Bd 50 q → D.rt v H') → t D [some (.ref d), some (.bl far), c2, c3] H1 := by
    refine ⟨_, (pss_cons (ps_set (i := 2) sc__law_part.nd rfl (Or.inl rfl) (pe_cB C__law_draw (hr.mono (by decide)) pass01 (pa_name (pv 0) (pa_sub (pe_ix ix_list (pe_lst (pa_const pe_int (pa_const pe_int pa_nil))) (pe_callTy call_int1 rfl T.int bt_int (pa_cmp (pe_cmpR op_eq (pe_cB C__law_draw (hr.mono (by decide)) pass01 (pa_name (pv 0) (pa_const pe_int pa_nil))) pe_int (nomark _)) pa_nil)) (fun _ _ => rfl)) pa_nil)))) (pss_cons (ps_set (i := 3) sc__law_part.nd rfl (Or.inl rfl) (pe_op op_add pe_int (pe_ix ix_list (pe_lst (pa_const pe_int (pa_const pe_int (pa_call (pe_cB C__law_draw (hr.mono (by decide)) pass01 (pa_name (pv 0) (pa_const pe_int pa_nil))) (pa_call (pe_cB C__law_draw (hr.mono (by decide)) pass01 (pa_name (pv 0) (pa_const pe_int pa_nil))) pa_nil))))) (pe_cB C__law_draw (hr.mono (by decide)) pass01 (pa_name (pv 0) (pa_const pe_int pa_nil))) (fun _ _ => rfl)))) (pss_cons (ps_if (pt_cmpR op_eq (pe_cB C__law_draw (hr.mono (by decide)) pass01 (pa_name (pv 0) (pa_const pe_int pa_nil))) pe_int (nomark _)) (pss_one (ps_set (i := 2) sc__law_part.nd rfl (Or.inl rfl) (pe_op op_sub pe_int (pv 2)))) pss_nil) (pss_one (ps_ret (pe_cB C__law_low (hr.mono (by decide)) pass01 (pa_name (pv 2) (pa_name (pv 3) pa_nil)))))))), ?_⟩
    intro D c2 c3 H1 hd1 s1 q
    refine ⟨_, rfl, (by show 2 ≤ sizeLine; decide), fun p hp => ?_⟩
    have u1 := same_new hp (.lst [.int 21, .int 1999])
    obtain ⟨a0, n0, _, hdd⟩ := hd1.d
    have npd : p ≠ d := fun e => by rw [e, hdd] at hp; cases hp
    refine ⟨_, rfl, d, c, L, 9, rfl, hd1.keep u1, by decide, fun x1 H2 x10 x11 hd2 s2 => ?_⟩
    have hp2 := s2 p _ npd upd_same
    refine ⟨rfl, .inr ⟨_, rfl, ?_⟩⟩
    obtain ⟨v, hv, hm⟩ := atI_in (xs := [V.int 21, V.int 1999]) (r := if decide (V.int x1 = V.int 1) then 1 else 0) (by split <;> decide) (by simp only [List.length_cons, List.length_nil]; split <;> decide)
    obtain ⟨m, rfl, m0, m1⟩ : ∃ m : Int, v = .int m ∧ 0 < m ∧ m ≤ 1999 := by
      simp only [List.mem_cons, List.not_mem_nil, or_false] at hm
      rcases hm with rfl | rfl <;> exact ⟨_, rfl, by decide, by decide⟩
    refine ⟨p, _, _, _, rfl, rfl, SqL.of hp2, hv, ?_⟩
    refine ⟨d, c, L, m, rfl, hd2, m0, fun t H3 t0 t1 hd3 s3 => ?_⟩
    have s03 := s1.trans ((u1.sd d).trans (s2.trans s3))
    -- the bottom
    refine ⟨_, rfl, d, c, L, 4, rfl, hd3, by decide, fun y1 H4 y10 y11 hd4 s4 => ?_⟩
    refine ⟨_, rfl, d, c, L, 12, rfl, hd4, by decide, fun y2 H5 y20 y21 hd5 s5 => ?_⟩
    refine ⟨(by show 4 ≤ sizeLine; decide), fun p5 hp5 => ?_⟩
    have u5 := same_new hp5 (.lst [.int 0, .int 0, .int y1, .int y2])
    obtain ⟨a5, n5, _, hdd5⟩ := hd5.d
    have npd5 : p5 ≠ d := fun e => by rw [e, hdd5] at hp5; cases hp5
    refine ⟨_, rfl, d, c, L, 4, rfl, hd5.keep u5, by decide, fun y3 H6 y30 y31 hd6 s6 => ?_⟩
    have hp6 := s6 p5 _ npd5 upd_same
    obtain ⟨v2, hv2, hm2⟩ := atI_in (xs := [V.int 0, V.int 0, V.int y1, V.int y2]) (r := y3) y30 (by simp only [List.length_cons, List.length_nil]; omega)
    obtain ⟨b, rfl, b0, b1⟩ : ∃ b : Int, v2 = .int b ∧ 0 ≤ b ∧ b ≤ 11 := by
      simp only [List.mem_cons, List.not_mem_nil, or_false] at hm2
      rcases hm2 with rfl | rfl | rfl | rfl
      · exact ⟨_, rfl, by decide, by decide⟩
      · exact ⟨_, rfl, by decide, by decide⟩
      · exact ⟨_, rfl, y10, by omega⟩
      · exact ⟨_, rfl, y20, by omega⟩
    refine ⟨p5, _, _, _, rfl, rfl, SqL.of hp6, hv2, _, _, rfl, rfl, ?_⟩
    have s06 := s03.trans (s4.trans (s5.trans ((u5.sd d).trans s6)))
    refine ⟨_, rfl, d, c, L, 2, rfl, hd6, by decide, fun y4 H7 y40 y41 hd7 s7 => ?_⟩
    have s07 := s06.trans s7
    have bl : (1 + b : Int).natAbs < lim := Nat.lt_of_lt_of_le (show (1 + b : Int).natAbs < 2 ^ 50 by omega) (by unfold lim; exact pow_le (by decide))
    refine ⟨rfl, _, rfl, ?_⟩
    have fin : ∀ t' : Int, t'.natAbs < 2 ^ 50 → ∀ p7, H7 p7 = none → D.rt (.ref p7) (upd H7 p7 (.tup [.int (Fr.lt t' (1 + b)), .int (Fr.lb t' (1 + b))])) := fun t' ht p7 hp7 =>
      q _ _ _ (hd7.keep (same_new hp7 _)) (s07.trans ((same_new hp7 _).sd d)) (dv_low (by omega)) (Bd.of (by omega) ht (by omega))
    refine ite2 (fun _ => ?_) (fun _ => ?_)
    · refine ⟨_, rfl, _, _, rfl, rfl, ?_⟩
      exact ⟨_, rfl, _, rfl, _, _, rfl, (by show (0 : Int) < 1 + b; omega), bl, fun p7 hp7 => fin (0 - t) (by omega) p7 hp7⟩
    · exact ⟨_, rfl, _, rfl, _, _, rfl, (by show (0 : Int) < 1 + b; omega), bl, fun p7 hp7 => fin t (by omega) p7 hp7⟩
  refine ⟨_, (pss_cons (ps_if (PW.pt (pw_and (pt_val (pv 1)) (pw_and1 (pt_cmpR op_eq (pe_cB C__law_draw (hr.mono (by decide)) pass01 (pa_name (pv 0) (pa_const pe_int pa_nil))) pe_int (nomark _))))) (pss_cons (ps_set (i := 2) sc__law_part.nd rfl (Or.inl rfl) (pe_op op_add (pe_op op_mul (pe_cB C__law_draw (hr.mono (by decide)) pass01 (pa_name (pv 0) (pa_const pe_int pa_nil))) pe_int) (pe_cB C__law_draw (hr.mono (by decide)) pass01 (pa_name (pv 0) (pa_const pe_int pa_nil))))) (pss_cons (ps_set (i := 3) sc__law_part.nd rfl (Or.inl rfl) (pe_op op_add (pe_op op_mul (pe_cB C__law_draw (hr.mono (by decide)) pass01 (pa_name (pv 0) (pa_const pe_int pa_nil))) pe_int) (pe_cB C__law_draw (hr.mono (by decide)) pass01 (pa_name (pv 0) (pa_const pe_int pa_nil))))) (pss_one (ps_ret (pe_cB C__law_low (hr.mono (by decide)) pass01 (pa_bin (pe_op op_add (pe_op op_sub (pe_op op_mod (pv 2) (pe_op op_sub (pe_op op_mul pe_int (pe_op op_pow pe_int pe_int)) pe_int)) (pe_op op_pow pe_int pe_int)) pe_int) (pa_bin (pe_op op_add pe_int (pe_op op_mod (pv 3) (pe_op op_sub (pe_op op_pow pe_int pe_int) pe_int))) pa_nil))))))) pss_nil) hR), ?_⟩
  refine ⟨_, rfl, _, rfl, ?_⟩
  cases far with
  | false => exact iteF (iteF (kR _ _ _ H hd (SD.refl _ _) q))
  | true =>
    refine iteT ?_
    refine ⟨_, rfl, d, c, L, 3, rfl, hd, by decide, fun x1 H1 x10 x11 hd1 s1 => ?_⟩
    refine ⟨rfl, _, rfl, ?_⟩
    refine ite2 (fun _ => ?_) (fun _ => kR _ _ _ H1 hd1 s1 q)
    refine ⟨_, rfl, d, c, L, 33554432, rfl, hd1, by decide, fun a1 H2 a10 a11 hd2 s2 => ?_⟩
    refine ⟨_, _, rfl, rfl, .inr ⟨by decide, by decide⟩, _, rfl, d, c, L, 33554432, rfl, hd2, by decide, fun a2 H3 a20 a21 hd3 s3 => ?_⟩
    refine ⟨_, _, rfl, rfl, ?_⟩
    refine ⟨_, rfl, d, c, L, 33554432, rfl, hd3, by decide, fun a3 H4 a30 a31 hd4 s4 => ?_⟩
    refine ⟨_, _, rfl, rfl, .inr ⟨by decide, by decide⟩, _, rfl, d, c, L, 33554432, rfl, hd4, by decide, fun a4 H5 a40 a41 hd5 s5 => ?_⟩
    refine ⟨_, _, rfl, rfl, ?_⟩
    have s05 := s1.trans (s2.trans (s3.trans (s4.trans s5)))
    refine ⟨_, rfl, _, _, rfl, rfl, p15, _, _, rfl, rfl, .inl ⟨by decide, by decide⟩, _, _, rfl, rfl, _, _, rfl, rfl, (by show (0 : Int) < 2 * 10 ^ (15 : Int).toNat - 1; decide), _, _, rfl, rfl, p15, _, _, rfl, rfl, _, _, rfl, rfl, ?_⟩
    refine ⟨_, rfl, _, _, rfl, rfl, p15, _, _, rfl, rfl, _, _, rfl, rfl, (by show (0 : Int) < 10 ^ (15 : Int).toNat - 1; decide), _, _, rfl, rfl, ?_⟩
    have e0 := Int.emod_nonneg (a1 * 33554432 + a2) (show (2 * 10 ^ (15 : Int).toNat - 1 : Int) ≠ 0 by decide)
    have e1 := Int.emod_lt_of_pos (a1 * 33554432 + a2) (show (0 : Int) < 2 * 10 ^ (15 : Int).toNat - 1 by decide)
    have g0 := Int.emod_nonneg (a3 * 33554432 + a4) (show (10 ^ (15 : Int).toNat - 1 : Int) ≠ 0 by decide)
    have g1 := Int.emod_lt_of_pos (a3 * 33554432 + a4) (show (0 : Int) < 10 ^ (15 : Int).toNat - 1 by decide)
    rw [t15] at e0 e1 g0 g1 ⊢
    refine ⟨_, _, rfl, (by show (0 : Int) < 1 + (a3 * 33554432 + a4) % (1000000000000000 - 1); omega), Nat.lt_of_lt_of_le (show (1 + (a3 * 33554432 + a4) % (1000000000000000 - 1) : Int).natAbs < 2 ^ 50 by omega) (by unfold lim; exact pow_le (by decide)), fun p hp => ?_⟩
    exact q _ _ _ (hd5.keep (same_new hp _)) (s05.trans ((same_new hp _).sd d)) (dv_low (by omega)) (Bd.of (by omega) (by omega) (by omega))
theorem c__law_piece (T : Txt K mg ad) : CalB P w K mg base true 3 "_law_piece" ["_law_drawn_here", "_law_far"] (spDPiece K) := by
  have C__law_draw := c__law_draw (P := P) (w := w) (base := base) T
  have C__law_part := c__law_part (P := P) (w := w) (base := base) T
  have C__law_under := c__law_under (P := P) (w := w) (base := base) T
  refine T.t__law_piece.calN sc__law_piece (fun _ _ _ _ _ _ => by2 fun _ _ => rfl) (fun vs H Q E h => ?_) (fun f cdv A outer s H vs Q E hr h => ?_)
  · obtain ⟨_, _, _, _, rfl, _⟩ := h; rfl
  obtain ⟨d, c, L, far, rfl, hd, q⟩ := h
  refine ⟨_, (pss_cons (ps_set (i := 2) sc__law_piece.nd rfl (Or.inl rfl) (pe_cB C__law_draw (hr.mono (by decide)) pass01 (pa_name (pv 0) (pa_const pe_int pa_nil)))) (pss_cons (ps_set (i := 3) sc__law_piece.nd rfl (Or.inl rfl) (pe_cB C__law_part (hr.mono (by decide)) pass01 (pa_name (pv 0) (pa_name (pv 1) pa_nil)))) (pss_cons (ps_if (pt_cmpR op_lt (pv 2) pe_int (nomark _)) (pss_one (ps_ret (pe_tup (pa_const pe_str (pa_name (pv 3) pa_nil))))) pss_nil) (pss_cons (ps_if (pt_cmpR op_lt (pv 2) pe_int (nomark _)) (pss_one (ps_ret (pe_tup (pa_const pe_str (pa_name (pv 3) pa_nil))))) pss_nil) (pss_cons (ps_set (i := 4) sc__law_piece.nd rfl (Or.inl rfl) (pe_cB C__law_part (hr.mono (by decide)) pass01 (pa_name (pv 0) (pa_name (pv 1) pa_nil)))) (pss_cons (ps_if (pt_val (pe_cB C__law_under (hr.mono (by decide)) pass01 (pa_name (pv 4) (pa_name (pv 3) pa_nil)))) (pss_one (ps_par (i := 3) (j := 4) rfl sc__law_piece.nd rfl rfl (by decide) rfl rfl (pa_name (pv 4) (pa_name (pv 3) pa_nil)) rfl)) pss_nil) (pss_one (ps_ret (pe_tup (pa_const pe_str (pa_name (pv 3) (pa_name (pv 4) pa_nil)))))))))))), ?_⟩
  refine ⟨_, rfl, d, c, L, 5, rfl, hd, by decide, fun x1 H1 x10 x11 hd1 s1 => ?_⟩
  refine ⟨_, rfl, _, rfl, d, c, L, far, rfl, hd1, fun v2 H2 q2 hd2 s2 hv2 b2 => ?_⟩
  have s02 := s1.trans s2
  refine ⟨_, rfl, _, _, rfl, rfl, _, rfl, ?_⟩
  refine ite2 (fun _ => ?_) (fun _ => ?_)
  · refine ⟨_, rfl, (by show 2 ≤ sizeLine; decide), fun p hp => ?_⟩
    exact q _ _ (.gap q2) (hd2.keep (same_new hp _)) (s02.trans ((same_new hp _).sd d)) (DV.upd2 hp (.str _) hv2) trivial b2
  refine ⟨_, rfl, _, _, rfl, rfl, _, rfl, ?_⟩
  refine ite2 (fun _ => ?_) (fun _ => ?_)
  · refine ⟨_, rfl, (by show 2 ≤ sizeLine; decide), fun p hp => ?_⟩
    exact q _ _ (.glass q2) (hd2.keep (same_new hp _)) (s02.trans ((same_new hp _).sd d)) (DV.upd2 hp (.str _) hv2) trivial b2
  refine ⟨_, rfl, _, rfl, d, c, L, far, rfl, hd2, fun v3 H3 q3 hd3 s3 hv3 b3 => ?_⟩
  have s03 := s02.trans s3
  have hv23 := hd2.dv s3 hv2
  refine ⟨_, rfl, _, rfl, _, _, .cons hv3 (.cons hv23 .nil), ⟨_, _, rfl, b3.sm (by decide), b2.sm (by decide), rfl⟩, fun b H4 s4 hb => ?_⟩
  obtain rfl := hb.bl_of
  refine ⟨_, rfl, ?_⟩
  have hd4 := hd3.keep s4
  have s04 := s03.trans (s4.sd d)
  refine ite2 (fun cc => ?_) (fun cc => ?_)
  · have cc : q3 < q2 := of_decide_eq_true cc
    refine ⟨_, rfl, _, rfl, _, _, rfl, ?_⟩
    refine ⟨_, rfl, _, rfl, (by show 3 ≤ sizeLine; decide), fun p hp => ?_⟩
    exact q _ _ (.stop q3 q2) (hd4.keep (same_new hp _)) (s04.trans ((same_new hp _).sd d)) (DV.upd3 hp (.str _) (hv3.keep s4) (hv23.keep s4)) (show ¬ q2 < q3 by grind) ⟨b3, b2⟩
  · have cc : ¬ q3 < q2 := fun z => cc (decide_eq_true z)
    refine ⟨_, rfl, _, rfl, (by show 3 ≤ sizeLine; decide), fun p hp => ?_⟩
    exact q _ _ (.stop q2 q3) (hd4.keep (same_new hp _)) (s04.trans ((same_new hp _).sd d)) (DV.upd3 hp (.str _) (hv23.keep s4) (hv3.keep s4)) cc ⟨b2, b3⟩
end
end K07
namespace K07
open PySem L2 Lib Fr Op
seal PE PT PW PA PS PSs PG PGs PI PO PIfs
section
variable {P : Program} {w : World} {K : PySem.W.Frag} {mg : Str → Option Value} {base : Heap} {ad : Adr} {c : Bool}
theorem x_is_piece (T : Txt K mg ad) : CalB P w K mg base true 3 "is_piece" ["thing"] (spPiece K) := by
  have C_is_less := c_is_less (P := P) (w := w) (base := base) T
  have C_is_ratio := c_is_ratio_any (P := P) (w := w) (base := base) T
  refine T.t_is_piece.calN sc_is_piece (fun _ _ _ _ _ _ => by1 fun _ => rfl) (fun vs H Q E h => ?_) (fun f cdv A outer s H vs Q E hr h => ?_)
  · obtain ⟨_, _, rfl, _⟩ := h; rfl
  obtain ⟨v, d, rfl, hv, sm, q⟩ := h
  refine ⟨_, (pss_cons (ps_if (PW.pt (pw_or (pt_not (pt_val (pe_callB call_isiD rfl T.isinstance bt_isinstance (pa_name (pv 0) (pa_name (pe_bltn (v := .ty "tuple") rfl T.tuple bt_tuple rfl) pa_nil))))) (pw_or (pt_cmpR op_lt (pe_callB call_len_seq rfl T.len bt_len (pa_name (pv 0) pa_nil)) pe_int (nomark _)) (pw_or1 (pt_not (pt_val (pe_callB call_isiD rfl T.isinstance bt_isinstance (pa_sub (pe_ix ix_tup (pv 0) pe_int (fun _ _ => rfl)) (pa_name (pe_bltn (v := .ty "str") rfl T.str bt_str rfl) pa_nil))))))))) (pss_one (ps_ret pe_bl)) pss_nil) (pss_cons (ps_if (pt_not (pt_val (pe_callB (call_all rfl) rfl T.all bt_all (pa_cons (pe_comp ["part"] [none] rfl (pi_tup (pe_slice sl_tup (pv 0) (po_some pe_int) po_none)) (fun _ _ _ _ _ => (pg_name (i := 0) (show List.Nodup [("part" : Str)] by decide) rfl (by first | exact Or.inl rfl | exact Or.inr rfl))) (fun _ _ _ _ _ => pifs_nil) (fun _ _ _ _ _ => (pe_cB C_is_ratio (hr.mono (by decide)) pass01 (pa_name (pv 0) pa_nil))) (cap_nil (by decide) (by decide)) (by decide) rfl (by decide) rfl (nocap rfl)) pa_nil)))) (pss_one (ps_ret pe_bl)) pss_nil) (pss_cons (ps_if (pt_cmpR op_eq (pe_ix ix_tup (pv 0) pe_int (fun _ _ => rfl)) (pe_glob (v := .str "stop") rfl T.ex.m_STOP ⟨_, rfl⟩) (nomark _)) (pss_one (ps_ret (pe_and (pe_cmpR op_eq (pe_callB call_len_seq rfl T.len bt_len (pa_name (pv 0) pa_nil)) pe_int (nomark _)) (pe_one (pe_not (pe_cB C_is_less (hr.mono (by decide)) pass01 (pa_sub (pe_ix ix_tup (pv 0) pe_int (fun _ _ => rfl)) (pa_sub (pe_ix ix_tup (pv 0) pe_int (fun _ _ => rfl)) pa_nil)))))))) pss_nil) (pss_one (ps_ret (pe_and (pe_cmpR op_in_seq (pe_ix ix_tup (pv 0) pe_int (fun _ _ => rfl)) (pe_tup (pa_name (pe_glob (v := .str "gap") rfl T.ex.m_GAP ⟨_, rfl⟩) (pa_name (pe_glob (v := .str "glass") rfl T.ex.m_GLASS ⟨_, rfl⟩) pa_nil))) (by rfl)) (pe_one (pe_cmpR op_eq (pe_callB call_len_seq rfl T.len bt_len (pa_name (pv 0) pa_nil)) pe_int (nomark _))))))))), ?_⟩
  refine ⟨_, rfl, _, _, _, _, rfl, hv, isTup_b d, _, rfl, ?_⟩
  cases ht : isTupD d with
  | false =>
    refine iteT (iteT ?_)
    have e : pieceD d = false := by
      cases d with
      | tuple ds => cases ht
      | _ => rfl
    rw [e] at q
    exact q _ (Same.refl _)
  | true =>
    obtain ⟨ds, rfl⟩ := isTup_of ht
    obtain ⟨a, xs, rfl, ha, hds⟩ := hv.tup_of
    refine iteF ?_
    refine ⟨_, rfl, a, _, rfl, .inr ha, _, _, rfl, rfl, _, rfl, ?_⟩
    rcases ds with _ | ⟨d0, _ | ⟨d1, dr⟩⟩
    · obtain rfl := hds.nil_of
      exact iteT' (by decide) (iteT (q _ (Same.refl _)))
    · obtain ⟨x0, xs, rfl, h0, hds⟩ := hds.cons_of
      obtain rfl := hds.nil_of
      have e : pieceD (.tuple [d0]) = false := by cases d0 <;> rfl
      rw [e] at q
      exact iteT' (decide_eq_true (by show ((1 : Nat) : Int) < 2; decide)) (iteT (q _ (Same.refl _)))
    · obtain ⟨x0, xs, rfl, h0, hds⟩ := hds.cons_of
      obtain ⟨x1, xr, rfl, h1, hr'⟩ := hds.cons_of
      refine iteF' (decide_eq_false (by simp only [List.length_cons]; omega)) ?_
      refine ⟨_, rfl, a, _, _, _, rfl, rfl, ha, atI0, _, _, _, _, rfl, h0, isStr_b d0, _, rfl, ?_⟩
      cases hs : isStrD d0 with
      | false =>
        refine iteT ?_
        have e : pieceD (.tuple (d0 :: d1 :: dr)) = false := by
          cases d0 with
          | str z => cases hs
          | _ => rfl
        rw [e] at q
        exact q _ (Same.refl _)
      | true =>
        obtain ⟨z, rfl⟩ := isStr_of hs
        obtain rfl := h0.str_of
        refine iteF ?_
        refine ⟨_, rfl, _, rfl, a, _, rfl, ha, (fun e => by rw [sIx1] at e; simp only [List.length_cons] at e; omega), fun p hp => ⟨p, rfl, ⟨_, SqT.of upd_same⟩, ?_⟩⟩
        rw [cut1]
        have u1 := same_new hp (.tup ((V.str z :: x1 :: xr).drop 1))
        have hparts : DVs K (upd H p (.tup ((V.str z :: x1 :: xr).drop 1))) (x1 :: xr) (d1 :: dr) := (DVs.cons h1 hr').keep u1
        refine comp_tup0 (K := K) (a := p) (xs := x1 :: xr) (fun i σ ys H' => ∃ c0, σ = [c0] ∧ ys = ((d1 :: dr).take i).map (fun d => V.bl (ratD d)) ∧ Same (upd H p (.tup ((V.str z :: x1 :: xr).drop 1))) H') ⟨_, rfl, rfl, Same.refl _⟩ ?_ ?_ ?_
        · rintro i σ ys H' hi ⟨c0, rfl, rfl, s'⟩
          refine ⟨?_, SqT.of (s' _ _ upd_same)⟩
          have := (DVs.cons h1 hr').len
          have z1 := (sm _ rfl).1
          have z2 := small1000 (n := 1000) (by decide)
          simp only [List.length_cons] at *
          rw [List.length_map, List.length_take]
          omega
        · rintro i x σ ys H' hi ⟨c0, rfl, rfl, s'⟩
          obtain ⟨dx, hdx, hx⟩ := hparts.get hi
          refine ⟨_, rfl, _, dx, rfl, hx.keep s', nx (lt_of_get hi) ⟨_, rfl, ?_, s'⟩⟩
          have hlt := lt_of_get hdx
          rw [List.take_add_one, hdx, List.map_append]
          rfl
        · rintro σ ys H' p2 ⟨c0, rfl, rfl, s'⟩ hp2
          have u2 := same_new hp2 (.lst (((d1 :: dr).take (x1 :: xr).length).map (fun d => V.bl (ratD d))))
          have t2 := u1.trans (s'.trans u2)
          have el : (d1 :: dr).take (x1 :: xr).length = d1 :: dr := List.take_of_length_le (by have := (DVs.cons h1 hr').len; omega)
          refine ⟨p2, (d1 :: dr).map ratD, rfl, SqL.of (by rw [upd_same, el, List.map_map]; rfl), _, rfl, ?_⟩
          have ea : ((d1 :: dr).map ratD).all id = (d1 :: dr).all ratD := by rw [List.all_map]; rfl
          rw [ea]
          cases hall : (d1 :: dr).all ratD with
          | false =>
            refine iteT ?_
            have e : pieceD (.tuple (.str z :: d1 :: dr)) = false := by show ((d1 :: dr).all ratD && _) = false; rw [hall]; rfl
            rw [e] at q
            exact q _ t2
          | true =>
            refine iteF ?_
            have hall' := List.all_eq_true.mp hall
            refine ⟨_, rfl, a, _, _, _, rfl, rfl, ha.keep t2, atI0, rfl, _, rfl, ?_⟩
            rw [decS]
            by_cases hz : z = "stop"
            · subst hz
              refine iteT' (by decide) ?_
              have e : pieceD (.tuple (.str "stop" :: d1 :: dr)) = stopD (d1 :: dr) := by show ((d1 :: dr).all ratD && _) = _; rw [hall]; rfl
              rw [e] at q
              refine ⟨_, rfl, a, _, rfl, .inr (ha.keep t2), rfl, _, rfl, ?_⟩
              rw [decI]
              rcases dr with _ | ⟨d2, _ | ⟨d3, dr'⟩⟩
              · obtain rfl := hr'.nil_of
                have e3 : stopD [d1] = false := by
                  unfold stopD
                  split
                  · rename_i ee; cases ee
                  · rfl
                rw [e3] at q
                exact iteF' (decide_eq_false (by show ¬ ((2 : Nat) : Int) = 3; decide)) (q _ t2)
              · obtain ⟨x2, xr, rfl, h2, hr'⟩ := hr'.cons_of
                obtain rfl := hr'.nil_of
                obtain ⟨lo, rfl⟩ := ratD_of (hall' d1 (by simp))
                obtain ⟨hi, rfl⟩ := ratD_of (hall' d2 (by simp))
                refine iteT' (decide_eq_true (by show ((3 : Nat) : Int) = 3; decide)) ?_
                refine ⟨_, rfl, a, _, _, _, rfl, rfl, ha.keep t2, rfl, _, rfl, a, _, _, _, rfl, rfl, ha.keep t2, rfl, ?_⟩
                refine ⟨_, _, .cons (h2.keep t2) (.cons (h1.keep t2) .nil), ⟨hi, lo, rfl, (sm _ rfl).2 _ (by simp), (sm _ rfl).2 _ (by simp), rfl⟩, fun v H3 s3 hv => ?_⟩
                obtain rfl := hv.bl_of
                refine ⟨_, rfl, ?_⟩
                rw [stopD_fr] at q
                exact q _ (t2.trans s3)
              · obtain ⟨x2, xr, rfl, h2, hr'⟩ := hr'.cons_of
                obtain ⟨x3, xr, rfl, h3, hr'⟩ := hr'.cons_of
                refine iteF' (decide_eq_false (by simp only [List.length_cons]; omega)) ?_
                have e2 : stopD (d1 :: d2 :: d3 :: dr') = false := by
                  unfold stopD
                  split
                  · rename_i ee; cases ee
                  · rfl
                rw [e2] at q
                exact q _ t2
            · refine iteF' (decide_eq_false hz) ?_
              have e : pieceD (.tuple (.str z :: d1 :: dr)) = ((decide (z = "gap") || decide (z = "glass")) && dr.isEmpty) := by
                show ((d1 :: dr).all ratD && (if z = "stop" then _ else _)) = _
                rw [hall, if_neg hz]; rfl
              rw [e] at q
              refine ⟨_, rfl, a, _, _, _, rfl, rfl, ha.keep t2, atI0, (by show 2 ≤ sizeLine; decide), fun p3 hp3 => ?_⟩
              have u3 := same_new hp3 (.tup [.str "gap", .str "glass"])
              have t3 := t2.trans u3
              refine ⟨p3, _, rfl, .inr (SqT.of upd_same), rfl, rfl, _, rfl, ?_⟩
              have ein : (if false = true then !inV (.str z) [.str "gap", .str "glass"] else inV (.str z) [.str "gap", .str "glass"]) = (decide (z = "gap") || decide (z = "glass")) := in_words z
              cases hin : (decide (z = "gap") || decide (z = "glass")) with
              | false =>
                rw [hin] at q
                exact iteF' (ein.trans hin) (q _ t3)
              | true =>
                rw [hin, Bool.true_and] at q
                refine iteT' (ein.trans hin) ?_
                refine ⟨_, rfl, a, _, rfl, .inr (ha.keep t3), rfl, ?_⟩
                have el2 : decide (V.int (((V.str z :: x1 :: xr).length : Nat) : Int) = V.int 2) = dr.isEmpty := by
                  rw [decI]
                  have := hr'.len
                  cases dr with
                  | nil =>
                    have : xr = [] := List.eq_nil_of_length_eq_zero (by simpa using this)
                    subst this; rfl
                  | cons d2 dr2 =>
                    simp only [List.length_cons] at this ⊢
                    exact decide_eq_false (by omega)
                show Q (.bl (decide (V.int (((V.str z :: x1 :: xr).length : Nat) : Int) = V.int 2))) _
                rw [el2]
                exact q _ t3
end
end K07
namespace K07
open PySem L2 Lib Fr Op
seal PE PT PW PA PS PSs PG PGs PI PO PIfs
theorem rat_neg {x : Int} {y : Nat} (h : 0 < y) : ratD (.tuple [.int x, .int (0 - (y : Int))]) = false := by
  show (decide (1 ≤ 0 - (y : Int)) && _) = false
  rw [decide_eq_false (by omega)]
  rfl
theorem sIx2 (n d : Nat) : HT.sIx n d (some 2) = min 2 n := HT.sIx_nat n d 2
section
variable {P : Program} {w : World} {K : PySem.W.Frag} {mg : Str → Option Value} {base : Heap} {ad : Adr} {c : Bool}
abbrev wrong : List Stmt := defBody s__law_wrong
theorem w_rest (T : Txt K mg ad) {f : Addr} {cdv : Value} {A : Around} {outer : List Env} {s : Shared} {H : Hp} {E : XK} (hr : RoomB true 1 (cxB true P w K mg base ["_law_piece_here", "_law_cell", "_law_word", "_law_others", "_law_top", "_law_bottom", "_law_parts"] "_law_wrong" (defScope s__law_wrong) f cdv A outer s H E).nox.A) : ∃ tr, PSs (cxB true P w K mg base ["_law_piece_here", "_law_cell", "_law_word", "_law_others", "_law_top", "_law_bottom", "_law_parts"] "_law_wrong" (defScope s__law_wrong) f cdv A outer s H E).nox (wrong.drop 5) tr ∧
    ∀ (a p : Addr) (zc : Int) (z : Str) (x1 : V) (rest L : List V) (ds : List PyData) (e1 : Rat) (es : List Rat) (c4 c5 c6 : Option V) (H0 : Hp) (D : Ends), SqT K H0 a (.str z :: x1 :: rest) → DV K H0 x1 (frD e1) → DVs K H0 rest (es.map frD) → Bd 50 e1 → (∀ e ∈ es, Bd 50 e) → es.length ≤ 1 →
      H0 p = some (.lst L) → DVs K H0 L ds → (∀ d ∈ ds, OddB d) → 0 < L.length →
      (∀ v d H', Same H0 H' → DV K H' v d → OddB d → D.rt v H') → tr D [some (.ref a), some (.int zc), some (.str z), some (.ref p), c4, c5, c6] H0 := by
  refine ⟨_, (pss_cons (ps_asg (pe_ix ix_tup (pv 0) pe_int (fun _ _ => rfl)) (pg_tup (n := 2) rfl (pgs_cons (pg_name (i := 4) sc__law_wrong.nd rfl (by first | exact Or.inl rfl | exact Or.inr rfl)) (pgs_cons (pg_name (i := 5) sc__law_wrong.nd rfl (by first | exact Or.inl rfl | exact Or.inr rfl)) pgs_nil)))) (pss_cons (ps_set (i := 6) sc__law_wrong.nd rfl (Or.inl rfl) (pe_lst (pa_name (pv 4) (pa_tuple (pe_tup (pa_name (pv 4) pa_nil)) (pa_tuple (pe_tup (pa_name (pv 4) (pa_name (pv 5) (pa_const pe_int pa_nil)))) (pa_tuple (pe_tup (pa_bin (pe_op op_mul pe_int (pv 4)) (pa_bin (pe_op op_mul pe_int (pv 5)) pa_nil))) (pa_tuple (pe_tup (pa_name (pv 4) (pa_const pe_int pa_nil))) (pa_tuple (pe_tup (pa_bin (pe_op op_sub pe_int (pv 4)) (pa_bin (pe_op op_sub pe_int (pv 5)) pa_nil))) pa_nil)))))))) (pss_cons (ps_set (i := 6) sc__law_wrong.nd rfl (Or.inl rfl) (pe_op op_cat (pv 6) (pe_lst (pa_tuple (pe_tup (pa_const pe_bl (pa_name (pv 5) pa_nil))) (pa_const pe_non (pa_tuple (pe_tup (pa_name (pv 4) (pa_const pe_bl pa_nil))) (pa_list (pe_lst (pa_name (pv 4) (pa_name (pv 5) pa_nil))) (pa_const pe_str (pa_tuple (pe_tup (pa_name (pv 4) (pa_const pe_non pa_nil))) (pa_tuple (pe_tup (pa_tuple (pe_tup (pa_name (pv 4) (pa_const pe_int pa_nil))) (pa_const pe_int pa_nil))) pa_nil)))))))))) (pss_cons (ps_if (pt_cmpR op_eq (pe_op op_mod (pv 1) pe_int) pe_int (nomark _)) (pss_one (ps_ret (pe_ix ix_list (pv 3) (pe_op op_mod (pe_op op_fdiv (pv 1) pe_int) (pe_callB call_len_seq rfl T.len bt_len (pa_name (pv 3) pa_nil))) (fun _ _ => rfl)))) pss_nil) (pss_one (ps_ret (pe_op op_catT (pe_tup (pa_name (pv 2) (pa_sub (pe_ix ix_list (pv 6) (pe_op op_mod (pe_op op_fdiv (pv 1) pe_int) (pe_callB call_len_seq rfl T.len bt_len (pa_name (pv 6) pa_nil))) (fun _ _ => rfl)) pa_nil))) (pe_slice sl_tup (pv 0) (po_some pe_int) po_none)))))))), ?_⟩
  intro a p zc z x1 rest L ds e1 es c4 c5 c6 H0 D ha h1 hrs b1 bes le1 hp hL ho l0 q
  have lr := hrs.len
  rw [List.length_map] at lr
  obtain ⟨a1, y1, y2, rfl, ha1, hy1, hy2⟩ := DV.t2 h1
  obtain rfl := hy1.int_of
  obtain rfl := hy2.int_of
  refine ⟨_, rfl, a, _, _, _, rfl, rfl, ha, atI1, a1, _, rfl, ha1, rfl, _, _, rfl, _, _, rfl, rfl, ?_⟩
  refine ⟨_, rfl, _, rfl, (by show 1 ≤ sizeLine; decide), fun p1 hp1 => ?_⟩
  have u1 := same_new hp1 (.tup [.int e1.num])
  have d1 : DV K (upd H0 p1 (.tup [.int e1.num])) (.ref p1) (.tuple [.int e1.num]) := .tup (SqT.of upd_same) (.cons (.int _) .nil)
  have t1 : (upd H0 p1 (.tup [.int e1.num])) p1 = some (.tup [.int e1.num]) := upd_same
  generalize upd H0 p1 (.tup [.int e1.num]) = H1 at u1 d1 t1 ⊢
  refine ⟨_, rfl, _, rfl, (by show 3 ≤ sizeLine; decide), fun p2 hp2 => ?_⟩
  have u2 := same_new hp2 (.tup [.int e1.num, .int ((e1.den : Nat) : Int), .int 1])
  have d2 : DV K (upd H1 p2 (.tup [.int e1.num, .int ((e1.den : Nat) : Int), .int 1])) (.ref p2) (.tuple [.int e1.num, .int ((e1.den : Nat) : Int), .int 1]) := .tup (SqT.of upd_same) (.cons (.int _) (.cons (.int _) (.cons (.int _) .nil)))
  have t2 : (upd H1 p2 (.tup [.int e1.num, .int ((e1.den : Nat) : Int), .int 1])) p2 = some (.tup [.int e1.num, .int ((e1.den : Nat) : Int), .int 1]) := upd_same
  generalize upd H1 p2 (.tup [.int e1.num, .int ((e1.den : Nat) : Int), .int 1]) = H2 at u2 d2 t2 ⊢
  refine ⟨_, rfl, _, _, rfl, rfl, .inl ⟨by decide, by decide⟩, _, rfl, _, _, rfl, rfl, .inl ⟨by decide, by decide⟩, (by show 2 ≤ sizeLine; decide), fun p3 hp3 => ?_⟩
  have u3 := same_new hp3 (.tup [.int (2 * e1.num), .int (2 * ((e1.den : Nat) : Int))])
  have d3 : DV K (upd H2 p3 (.tup [.int (2 * e1.num), .int (2 * ((e1.den : Nat) : Int))])) (.ref p3) (.tuple [.int (2 * e1.num), .int (2 * ((e1.den : Nat) : Int))]) := .tup (SqT.of upd_same) (.cons (.int _) (.cons (.int _) .nil))
  have t3 : (upd H2 p3 (.tup [.int (2 * e1.num), .int (2 * ((e1.den : Nat) : Int))])) p3 = some (.tup [.int (2 * e1.num), .int (2 * ((e1.den : Nat) : Int))]) := upd_same
  generalize upd H2 p3 (.tup [.int (2 * e1.num), .int (2 * ((e1.den : Nat) : Int))]) = H3 at u3 d3 t3 ⊢
  refine ⟨_, rfl, (by show 2 ≤ sizeLine; decide), fun p4 hp4 => ?_⟩
  have u4 := same_new hp4 (.tup [.int e1.num, .int 0])
  have d4 : DV K (upd H3 p4 (.tup [.int e1.num, .int 0])) (.ref p4) (.tuple [.int e1.num, .int 0]) := .tup (SqT.of upd_same) (.cons (.int _) (.cons (.int _) .nil))
  have t4 : (upd H3 p4 (.tup [.int e1.num, .int 0])) p4 = some (.tup [.int e1.num, .int 0]) := upd_same
  generalize upd H3 p4 (.tup [.int e1.num, .int 0]) = H4 at u4 d4 t4 ⊢
  refine ⟨_, rfl, _, _, rfl, rfl, _, rfl, _, _, rfl, rfl, (by show 2 ≤ sizeLine; decide), fun p5 hp5 => ?_⟩
  have u5 := same_new hp5 (.tup [.int (0 - e1.num), .int (0 - ((e1.den : Nat) : Int))])
  have d5 : DV K (upd H4 p5 (.tup [.int (0 - e1.num), .int (0 - ((e1.den : Nat) : Int))])) (.ref p5) (.tuple [.int (0 - e1.num), .int (0 - ((e1.den : Nat) : Int))]) := .tup (SqT.of upd_same) (.cons (.int _) (.cons (.int _) .nil))
  have t5 : (upd H4 p5 (.tup [.int (0 - e1.num), .int (0 - ((e1.den : Nat) : Int))])) p5 = some (.tup [.int (0 - e1.num), .int (0 - ((e1.den : Nat) : Int))]) := upd_same
  generalize upd H4 p5 (.tup [.int (0 - e1.num), .int (0 - ((e1.den : Nat) : Int))]) = H5 at u5 d5 t5 ⊢
  refine ⟨(by show 6 ≤ sizeLine; decide), fun p6 hp6 => ?_⟩
  have u6 := same_new hp6 (.lst [.int e1.num, .ref p1, .ref p2, .ref p3, .ref p4, .ref p5])
  have d6 : DV K (upd H5 p6 (.lst [.int e1.num, .ref p1, .ref p2, .ref p3, .ref p4, .ref p5])) (.ref p6) (.list [.int e1.num, .tuple [.int e1.num], .tuple [.int e1.num, .int ((e1.den : Nat) : Int), .int 1], .tuple [.int (2 * e1.num), .int (2 * ((e1.den : Nat) : Int))], .tuple [.int e1.num, .int 0], .tuple [.int (0 - e1.num), .int (0 - ((e1.den : Nat) : Int))]]) := .lst (SqL.of upd_same) (.cons (.int _) (.cons (d1.keep (u2.trans (u3.trans (u4.trans (u5.trans (u6)))))) (.cons (d2.keep (u3.trans (u4.trans (u5.trans (u6))))) (.cons (d3.keep (u4.trans (u5.trans (u6)))) (.cons (d4.keep (u5.trans (u6))) (.cons (d5.keep (u6)) .nil))))))
  have t6 : (upd H5 p6 (.lst [.int e1.num, .ref p1, .ref p2, .ref p3, .ref p4, .ref p5])) p6 = some (.lst [.int e1.num, .ref p1, .ref p2, .ref p3, .ref p4, .ref p5]) := upd_same
  have l6 : (upd H5 p6 (.lst [.int e1.num, .ref p1, .ref p2, .ref p3, .ref p4, .ref p5])) p6 = some (.lst [.int e1.num, .ref p1, .ref p2, .ref p3, .ref p4, .ref p5]) := upd_same
  generalize upd H5 p6 (.lst [.int e1.num, .ref p1, .ref p2, .ref p3, .ref p4, .ref p5]) = H6 at u6 d6 t6 l6 ⊢
  refine ⟨_, rfl, _, rfl, (by show 2 ≤ sizeLine; decide), fun p7 hp7 => ?_⟩
  have u7 := same_new hp7 (.tup [.bl true, .int ((e1.den : Nat) : Int)])
  have d7 : DV K (upd H6 p7 (.tup [.bl true, .int ((e1.den : Nat) : Int)])) (.ref p7) (.tuple [.bool true, .int ((e1.den : Nat) : Int)]) := .tup (SqT.of upd_same) (.cons (.bl _) (.cons (.int _) .nil))
  have t7 : (upd H6 p7 (.tup [.bl true, .int ((e1.den : Nat) : Int)])) p7 = some (.tup [.bl true, .int ((e1.den : Nat) : Int)]) := upd_same
  generalize upd H6 p7 (.tup [.bl true, .int ((e1.den : Nat) : Int)]) = H7 at u7 d7 t7 ⊢
  refine ⟨_, rfl, (by show 2 ≤ sizeLine; decide), fun p8 hp8 => ?_⟩
  have u8 := same_new hp8 (.tup [.int e1.num, .bl true])
  have d8 : DV K (upd H7 p8 (.tup [.int e1.num, .bl true])) (.ref p8) (.tuple [.int e1.num, .bool true]) := .tup (SqT.of upd_same) (.cons (.int _) (.cons (.bl _) .nil))
  have t8 : (upd H7 p8 (.tup [.int e1.num, .bl true])) p8 = some (.tup [.int e1.num, .bl true]) := upd_same
  generalize upd H7 p8 (.tup [.int e1.num, .bl true]) = H8 at u8 d8 t8 ⊢
  refine ⟨_, rfl, _, rfl, (by show 2 ≤ sizeLine; decide), fun p9 hp9 => ?_⟩
  have u9 := same_new hp9 (.lst [.int e1.num, .int ((e1.den : Nat) : Int)])
  have d9 : DV K (upd H8 p9 (.lst [.int e1.num, .int ((e1.den : Nat) : Int)])) (.ref p9) (.list [.int e1.num, .int ((e1.den : Nat) : Int)]) := .lst (SqL.of upd_same) (.cons (.int _) (.cons (.int _) .nil))
  have t9 : (upd H8 p9 (.lst [.int e1.num, .int ((e1.den : Nat) : Int)])) p9 = some (.lst [.int e1.num, .int ((e1.den : Nat) : Int)]) := upd_same
  have l9 : (upd H8 p9 (.lst [.int e1.num, .int ((e1.den : Nat) : Int)])) p9 = some (.lst [.int e1.num, .int ((e1.den : Nat) : Int)]) := upd_same
  generalize upd H8 p9 (.lst [.int e1.num, .int ((e1.den : Nat) : Int)]) = H9 at u9 d9 t9 l9 ⊢
  refine ⟨_, rfl, (by show 2 ≤ sizeLine; decide), fun p10 hp10 => ?_⟩
  have u10 := same_new hp10 (.tup [.int e1.num, .non])
  have d10 : DV K (upd H9 p10 (.tup [.int e1.num, .non])) (.ref p10) (.tuple [.int e1.num, .none]) := .tup (SqT.of upd_same) (.cons (.int _) (.cons .non .nil))
  have t10 : (upd H9 p10 (.tup [.int e1.num, .non])) p10 = some (.tup [.int e1.num, .non]) := upd_same
  generalize upd H9 p10 (.tup [.int e1.num, .non]) = H10 at u10 d10 t10 ⊢
  refine ⟨_, rfl, (by show 2 ≤ sizeLine; decide), fun p11 hp11 => ?_⟩
  have u11 := same_new hp11 (.tup [.int e1.num, .int 1])
  have d11 : DV K (upd H10 p11 (.tup [.int e1.num, .int 1])) (.ref p11) (.tuple [.int e1.num, .int 1]) := .tup (SqT.of upd_same) (.cons (.int _) (.cons (.int _) .nil))
  have t11 : (upd H10 p11 (.tup [.int e1.num, .int 1])) p11 = some (.tup [.int e1.num, .int 1]) := upd_same
  generalize upd H10 p11 (.tup [.int e1.num, .int 1]) = H11 at u11 d11 t11 ⊢
  refine ⟨(by show 2 ≤ sizeLine; decide), fun p12 hp12 => ?_⟩
  have u12 := same_new hp12 (.tup [.ref p11, .int 1])
  have d12 : DV K (upd H11 p12 (.tup [.ref p11, .int 1])) (.ref p12) (.tuple [.tuple [.int e1.num, .int 1], .int 1]) := .tup (SqT.of upd_same) (.cons (d11.keep (u12)) (.cons (.int _) .nil))
  have t12 : (upd H11 p12 (.tup [.ref p11, .int 1])) p12 = some (.tup [.ref p11, .int 1]) := upd_same
  generalize upd H11 p12 (.tup [.ref p11, .int 1]) = H12 at u12 d12 t12 ⊢
  refine ⟨(by show 7 ≤ sizeLine; decide), fun p13 hp13 => ?_⟩
  have u13 := same_new hp13 (.lst [.ref p7, .non, .ref p8, .ref p9, .str "1/2", .ref p10, .ref p12])
  have d13 : DV K (upd H12 p13 (.lst [.ref p7, .non, .ref p8, .ref p9, .str "1/2", .ref p10, .ref p12])) (.ref p13) (.list [.tuple [.bool true, .int ((e1.den : Nat) : Int)], .none, .tuple [.int e1.num, .bool true], .list [.int e1.num, .int ((e1.den : Nat) : Int)], .str "1/2", .tuple [.int e1.num, .none], .tuple [.tuple [.int e1.num, .int 1], .int 1]]) := .lst (SqL.of upd_same) (.cons (d7.keep (u8.trans (u9.trans (u10.trans (u11.trans (u12.trans (u13))))))) (.cons .non (.cons (d8.keep (u9.trans (u10.trans (u11.trans (u12.trans (u13)))))) (.cons (d9.keep (u10.trans (u11.trans (u12.trans (u13))))) (.cons (.str _) (.cons (d10.keep (u11.trans (u12.trans (u13)))) (.cons (d12.keep (u13)) .nil)))))))
  have t13 : (upd H12 p13 (.lst [.ref p7, .non, .ref p8, .ref p9, .str "1/2", .ref p10, .ref p12])) p13 = some (.lst [.ref p7, .non, .ref p8, .ref p9, .str "1/2", .ref p10, .ref p12]) := upd_same
  have l13 : (upd H12 p13 (.lst [.ref p7, .non, .ref p8, .ref p9, .str "1/2", .ref p10, .ref p12])) p13 = some (.lst [.ref p7, .non, .ref p8, .ref p9, .str "1/2", .ref p10, .ref p12]) := upd_same
  generalize upd H12 p13 (.lst [.ref p7, .non, .ref p8, .ref p9, .str "1/2", .ref p10, .ref p12]) = H13 at u13 d13 t13 l13 ⊢
  refine ⟨p6, p13, _, _, rfl, rfl, (u7.trans (u8.trans (u9.trans (u10.trans (u11.trans (u12.trans (u13))))))) _ _ l6, (Same.refl _) _ _ l13, (by show 13 ≤ sizeLine; decide), fun p14 hp14 => ?_⟩
  have u14 := same_new hp14 (.lst ([(.int e1.num : V), .ref p1, .ref p2, .ref p3, .ref p4, .ref p5] ++ [(.ref p7 : V), .non, .ref p8, .ref p9, .str "1/2", .ref p10, .ref p12]))
  have l14 : (upd H13 p14 (.lst ([(.int e1.num : V), .ref p1, .ref p2, .ref p3, .ref p4, .ref p5] ++ [(.ref p7 : V), .non, .ref p8, .ref p9, .str "1/2", .ref p10, .ref p12]))) p14 = some (.lst ([(.int e1.num : V), .ref p1, .ref p2, .ref p3, .ref p4, .ref p5] ++ [(.ref p7 : V), .non, .ref p8, .ref p9, .str "1/2", .ref p10, .ref p12])) := upd_same
  generalize upd H13 p14 (.lst ([(.int e1.num : V), .ref p1, .ref p2, .ref p3, .ref p4, .ref p5] ++ [(.ref p7 : V), .non, .ref p8, .ref p9, .str "1/2", .ref p10, .ref p12])) = H14 at u14 l14 ⊢
  have all : DVs K H14 [.int e1.num, .ref p1, .ref p2, .ref p3, .ref p4, .ref p5, .ref p7, .non, .ref p8, .ref p9, .str "1/2", .ref p10, .ref p12] [.int e1.num, .tuple [.int e1.num], .tuple [.int e1.num, .int ((e1.den : Nat) : Int), .int 1], .tuple [.int (2 * e1.num), .int (2 * ((e1.den : Nat) : Int))], .tuple [.int e1.num, .int 0], .tuple [.int (0 - e1.num), .int (0 - ((e1.den : Nat) : Int))], .tuple [.bool true, .int ((e1.den : Nat) : Int)], .none, .tuple [.int e1.num, .bool true], .list [.int e1.num, .int ((e1.den : Nat) : Int)], .str "1/2", .tuple [.int e1.num, .none], .tuple [.tuple [.int e1.num, .int 1], .int 1]] := (.cons (.int _) (.cons (d1.keep (u2.trans (u3.trans (u4.trans (u5.trans (u6.trans (u7.trans (u8.trans (u9.trans (u10.trans (u11.trans (u12.trans (u13.trans (u14)))))))))))))) (.cons (d2.keep (u3.trans (u4.trans (u5.trans (u6.trans (u7.trans (u8.trans (u9.trans (u10.trans (u11.trans (u12.trans (u13.trans (u14))))))))))))) (.cons (d3.keep (u4.trans (u5.trans (u6.trans (u7.trans (u8.trans (u9.trans (u10.trans (u11.trans (u12.trans (u13.trans (u14)))))))))))) (.cons (d4.keep (u5.trans (u6.trans (u7.trans (u8.trans (u9.trans (u10.trans (u11.trans (u12.trans (u13.trans (u14))))))))))) (.cons (d5.keep (u6.trans (u7.trans (u8.trans (u9.trans (u10.trans (u11.trans (u12.trans (u13.trans (u14)))))))))) (.cons (d7.keep (u8.trans (u9.trans (u10.trans (u11.trans (u12.trans (u13.trans (u14)))))))) (.cons .non (.cons (d8.keep (u9.trans (u10.trans (u11.trans (u12.trans (u13.trans (u14))))))) (.cons (d9.keep (u10.trans (u11.trans (u12.trans (u13.trans (u14)))))) (.cons (.str _) (.cons (d10.keep (u11.trans (u12.trans (u13.trans (u14))))) (.cons (d12.keep (u13.trans (u14))) .nil)))))))))))))
  have tall : Same H0 H14 := (u1.trans (u2.trans (u3.trans (u4.trans (u5.trans (u6.trans (u7.trans (u8.trans (u9.trans (u10.trans (u11.trans (u12.trans (u13.trans (u14))))))))))))))
  refine ⟨_, rfl, _, _, rfl, rfl, (by show (0 : Int) < 2; decide), rfl, _, rfl, ?_⟩
  cases hb : decide (V.int (zc % 2) = V.int 0) with
  | true =>
    refine iteT ?_
    obtain ⟨v, hv, hm⟩ := atI_in (xs := L) (r := zc / 2 % ((L.length : Nat) : Int)) (Int.emod_nonneg _ (by omega)) (Int.emod_lt_of_pos _ (by omega))
    refine ⟨_, rfl, _, rfl, _, _, rfl, rfl, ⟨by decide, by decide⟩, _, rfl, p, _, rfl, .inl (SqL.of (tall _ _ hp)), _, _, rfl, rfl, (by show (0 : Int) < ((L.length : Nat) : Int); omega), p, _, _, v, rfl, rfl, SqL.of (tall _ _ hp), hv, ?_⟩
    obtain ⟨i, hi⟩ := List.getElem?_of_mem hm
    obtain ⟨d, hd, hxd⟩ := hL.get hi
    exact q v d _ tall (hxd.keep tall) (ho d (List.mem_of_getElem? hd))
  | false =>
    refine iteF ?_
    obtain ⟨v, hv, hm⟩ := atI_in (xs := ([(.int e1.num : V), .ref p1, .ref p2, .ref p3, .ref p4, .ref p5] ++ [(.ref p7 : V), .non, .ref p8, .ref p9, .str "1/2", .ref p10, .ref p12])) (r := zc / 2 % 13) (by omega) (by simp only [List.length_append, List.length_cons, List.length_nil]; omega)
    refine ⟨_, rfl, _, rfl, _, rfl, _, _, rfl, rfl, ⟨by decide, by decide⟩, _, rfl, p14, _, rfl, .inl (SqL.of l14), _, _, rfl, rfl, (by show (0 : Int) < 13; decide), p14, _, _, v, rfl, rfl, SqL.of l14, hv, (by show 2 ≤ sizeLine; decide), fun pt hpt => ?_⟩
    have ut := same_new hpt (.tup [V.str z, v])
    refine ⟨_, rfl, _, rfl, a, _, rfl, ha.keep (tall.trans ut), (fun e => by rw [sIx2] at e; simp only [List.length_cons] at e; omega), fun pr hpr => ?_⟩
    rw [show cutV (V.str z :: .ref a1 :: rest) (some 2) none = rest from cut2 _]
    have ur := same_new hpr (.tup rest)
    obtain ⟨i, hi⟩ := List.getElem?_of_mem hm
    obtain ⟨d, hd, hxd⟩ := all.get hi
    have hd := List.mem_of_getElem? hd
    simp only [List.mem_cons, List.not_mem_nil, or_false] at hd
    have b1n := b1.n
    have b1d := b1.d
    have d0 := denp e1
    have pw : (2 : Nat) ^ 50 + 2 ^ 50 ≤ 2 ^ 60 := by decide
    have fin : ratD d = false ∧ SmC d := by
      rcases hd with rfl | rfl | rfl | rfl | rfl | rfl | rfl | rfl | rfl | rfl | rfl | rfl | rfl
      · exact ⟨rfl, smc_no (fun _ _ h => by cases h)⟩
      · exact ⟨rfl, smc_no (fun _ _ h => by cases h)⟩
      · exact ⟨rfl, smc_no (fun _ _ h => by cases h)⟩
      · exact ⟨rat_twice _, smc_two (by omega) (by omega)⟩
      · exact ⟨rfl, smc_two (by omega) (by decide)⟩
      · exact ⟨rat_neg (by omega), smc_two (by omega) (by omega)⟩
      · exact ⟨rfl, smc_no (fun _ _ h => by cases h)⟩
      · exact ⟨rfl, smc_no (fun _ _ h => by cases h)⟩
      · exact ⟨rfl, smc_no (fun _ _ h => by cases h)⟩
      · exact ⟨rfl, smc_no (fun _ _ h => by cases h)⟩
      · exact ⟨rfl, smc_no (fun _ _ h => by cases h)⟩
      · exact ⟨rfl, smc_no (fun _ _ h => by cases h)⟩
      · exact ⟨rfl, smc_no (fun _ _ h => by cases h)⟩
    have st := ut.trans ur
    refine ⟨pt, pr, _, _, rfl, rfl, SqT.of (ur _ _ upd_same), SqT.of upd_same, (fun h => nomatch h), Nat.le_of_lt (small1000 (by simp only [List.length_cons, List.length_nil]; omega)), (fun he => ?_), fun hne pc hpc => ?_⟩
    · subst he
      obtain rfl : es = [] := by cases es with | nil => rfl | cons _ _ => simp at lr
      exact q _ _ _ (tall.trans st) (.tup (SqT.of (ur _ _ upd_same)) (.cons (.str _) (.cons (hxd.keep st) .nil))) (odd_part (es := []) fin.1 fin.2 bes le1)
    · have uc := same_new hpc (.tup ([V.str z, v] ++ rest))
      have stc := st.trans uc
      exact q _ _ _ (tall.trans stc) (.tup (SqT.of upd_same) (.cons (.str _) (.cons (hxd.keep stc) (hrs.keep (tall.trans stc))))) (odd_part fin.1 fin.2 bes le1)
end
end K07
namespace K07
open PySem L2 Lib Fr Op
seal PE PT PW PA PS PSs PG PGs PI PO PIfs
section
variable {P : Program} {w : World} {K : PySem.W.Frag} {mg : Str → Option Value} {base : Heap} {ad : Adr} {c : Bool}
theorem w_plain (T : Txt K mg ad) {f : Addr} {cdv : Value} {A : Around} {outer : List Env} {s : Shared} {H : Hp} {E : XK} (hr : RoomB true 1 (cxB true P w K mg base ["_law_piece_here", "_law_cell", "_law_word", "_law_others", "_law_top", "_law_bottom", "_law_parts"] "_law_wrong" (defScope s__law_wrong) f cdv A outer s H E).nox.A) {tR : TS} (hR : PSs (cxB true P w K mg base ["_law_piece_here", "_law_cell", "_law_word", "_law_others", "_law_top", "_law_bottom", "_law_parts"] "_law_wrong" (defScope s__law_wrong) f cdv A outer s H E).nox (wrong.drop 5) tR)
    (kR : ∀ (a p : Addr) (zc : Int) (z : Str) (x1 : V) (rest L : List V) (ds : List PyData) (e1 : Rat) (es : List Rat) (c4 c5 c6 : Option V) (H0 : Hp) (D : Ends), SqT K H0 a (.str z :: x1 :: rest) → DV K H0 x1 (frD e1) → DVs K H0 rest (es.map frD) → Bd 50 e1 → (∀ e ∈ es, Bd 50 e) → es.length ≤ 1 →
      H0 p = some (.lst L) → DVs K H0 L ds → (∀ d ∈ ds, OddB d) → 0 < L.length →
      (∀ v d H', Same H0 H' → DV K H' v d → OddB d → D.rt v H') → tR D [some (.ref a), some (.int zc), some (.str z), some (.ref p), c4, c5, c6] H0) : ∃ tr, PSs (cxB true P w K mg base ["_law_piece_here", "_law_cell", "_law_word", "_law_others", "_law_top", "_law_bottom", "_law_parts"] "_law_wrong" (defScope s__law_wrong) f cdv A outer s H E).nox wrong tr ∧
    ∀ (a : Addr) (zc : Int) (z : Str) (x1 : V) (e1 : Rat) (c2 c3 c4 c5 c6 : Option V) (H0 : Hp) (D : Ends), (z = "gap" ∨ z = "glass") → SqT K H0 a [.str z, x1] → DV K H0 x1 (frD e1) → Bd 50 e1 → 
      (∀ v d H', Same H0 H' → DV K H' v d → OddB d → D.rt v H') → tr D [some (.ref a), some (.int zc), c2, c3, c4, c5, c6] H0 := by
  refine ⟨_, (pss_cons (ps_set (i := 2) sc__law_wrong.nd rfl (Or.inl rfl) (pe_ix ix_tup (pv 0) pe_int (fun _ _ => rfl))) (pss_cons (ps_set (i := 3) sc__law_wrong.nd rfl (Or.inl rfl) (pe_lst (pa_call (pe_callTy call_list_of rfl T.list bt_list (pa_name (pv 0) pa_nil)) (pa_tuple (pe_tup (pa_name (pv 2) pa_nil)) (pa_bin (pe_op op_catT (pv 0) (pe_tup (pa_sub (pe_ix ix_tup (pv 0) pe_int (fun _ _ => rfl)) pa_nil))) (pa_bin (pe_op op_catT (pe_tup (pa_call (pe_bm0 PySem.F.plainAttrs_str PySem.F.slot_str_upper PySem.F.type_str_upper mt_upper (pv 2)) pa_nil)) (pe_slice sl_tup (pv 0) (po_some pe_int) po_none)) (pa_bin (pe_op op_catT (pe_tup (pa_const pe_str pa_nil)) (pe_slice sl_tup (pv 0) (po_some pe_int) po_none)) (pa_sub (pe_slice sl_tup (pv 0) (po_some pe_int) po_none) pa_nil)))))))) (pss_cons (ps_set (i := 3) sc__law_wrong.nd rfl (Or.inl rfl) (pe_op op_cat (pv 3) (pe_lst (pa_const pe_non (pa_name (pv 2) (pa_const pe_int (pa_tuple (pe_tup pa_nil) (pa_bin (pe_op op_catT (pe_tup (pa_const pe_int pa_nil)) (pe_slice sl_tup (pv 0) (po_some pe_int) po_none)) (pa_dict (pe_d1 (pv 2) (pe_ix ix_tup (pv 0) pe_int (fun _ _ => rfl))) (pa_bin (pe_op op_catT (pe_tup (pa_const pe_str pa_nil)) (pe_slice sl_tup (pv 0) (po_some pe_int) po_none)) pa_nil)))))))))) (pss_cons (ps_expr (pe_bm PySem.F.plainAttrs_list PySem.F.slot_list_append PySem.F.type_list_append mt_append (pv 3) (pa_bin (pe_op op_catT (pe_tup (pa_sub (pe_ix ix_list (pe_lst (pa_const pe_str (pa_const pe_str pa_nil))) (pe_callTy call_int1 rfl T.int bt_int (pa_cmp (pe_cmpR op_eq (pv 2) pe_str (nomark _)) pa_nil)) (fun _ _ => rfl)) pa_nil)) (pe_slice sl_tup (pv 0) (po_some pe_int) po_none)) pa_nil))) (pss_cons (ps_if (PW.pt (pw_and (pt_cmpR op_eq (pv 2) pe_str (nomark _)) (pw_and1 (pt_cmpR (op_neD hr.units) (pe_ix ix_tup (pv 0) pe_int (fun _ _ => rfl)) (pe_ix ix_tup (pv 0) pe_int (fun _ _ => rfl)) (nomark _))))) (pss_one (ps_set (i := 3) sc__law_wrong.nd rfl (Or.inl rfl) (pe_op op_cat (pv 3) (pe_op op_rep (pe_lst (pa_tuple (pe_tup (pa_name (pv 2) (pa_sub (pe_ix ix_tup (pv 0) pe_int (fun _ _ => rfl)) (pa_sub (pe_ix ix_tup (pv 0) pe_int (fun _ _ => rfl)) pa_nil)))) pa_nil)) pe_int)))) pss_nil) hR))))), ?_⟩
  intro a zc z x1 e1 c2 c3 c4 c5 c6 H0 D hz ha h1 b1 q
  have nz : z ≠ "stop" := by rcases hz with rfl | rfl <;> decide
  have hd : decide (V.str z = V.str "stop") = false := decide_eq_false fun e => nz (V.str.inj e)
  have up0 : PySem.Builtin.Str.tooLong (Txt.upper z).length = false := by rcases hz with rfl | rfl <;> decide +kernel
  have up1 : Txt.upper z ≠ "stop" := by rcases hz with rfl | rfl <;> decide +kernel
  have up2 : Txt.upper z ≠ "gap" := by rcases hz with rfl | rfl <;> decide +kernel
  have up3 : Txt.upper z ≠ "glass" := by rcases hz with rfl | rfl <;> decide +kernel
  have B : ∀ e ∈ [e1], Bd 50 e := fun e he => by rw [List.mem_singleton.mp he]; exact b1
  have B3 : ∀ e ∈ [e1, e1], Bd 50 e := fun e he => by simp only [List.mem_cons, List.not_mem_nil, or_false] at he; rcases he with rfl | rfl <;> assumption
  refine ⟨_, rfl, a, _, _, _, rfl, rfl, ha, atI0, _, rfl, a, _, rfl, .inr (ha.keep (Same.refl _)), fun p1 hp1 => ?_⟩
  have u1 := same_new hp1 (.lst [(V.str z), x1])
  have d1 : DV K (upd H0 p1 (.lst [(V.str z), x1])) (.ref p1) (.list [.str z, frD e1]) := .lst (SqL.of upd_same) (.cons (.str _) (.cons (h1.keep (u1)) .nil))
  generalize upd H0 p1 (.lst [(V.str z), x1]) = H1 at u1 d1 ⊢
  refine ⟨_, rfl, (by show 1 ≤ sizeLine; decide), fun p2 hp2 => ?_⟩
  have u2 := same_new hp2 (.tup [.str z])
  have d2 : DV K (upd H1 p2 (.tup [.str z])) (.ref p2) (.tuple [.str z]) := .tup (SqT.of upd_same) (.cons (.str _) .nil)
  have t2 : (upd H1 p2 (.tup [.str z])) p2 = some (.tup [.str z]) := upd_same
  generalize upd H1 p2 (.tup [.str z]) = H2 at u2 d2 t2 ⊢
  refine ⟨_, rfl, _, rfl, a, _, _, _, rfl, rfl, ha.keep (u1.trans (u2)), atI1, (by show 1 ≤ sizeLine; decide), fun p3 hp3 => ?_⟩
  have u3 := same_new hp3 (.tup [x1])
  have d3 : DV K (upd H2 p3 (.tup [x1])) (.ref p3) (.tuple [frD e1]) := .tup (SqT.of upd_same) (.cons (h1.keep (u1.trans (u2.trans (u3)))) .nil)
  have t3 : (upd H2 p3 (.tup [x1])) p3 = some (.tup [x1]) := upd_same
  generalize upd H2 p3 (.tup [x1]) = H3 at u3 d3 t3 ⊢
  refine ⟨a, p3, _, _, rfl, rfl, ha.keep (u1.trans (u2.trans (u3))), SqT.of ((Same.refl _) _ _ t3), (fun h => nomatch h), (by show 3 ≤ sizeLine; decide), (fun h => nomatch h), fun _ p4 hp4 => ?_⟩
  have u4 := same_new hp4 (.tup ([(V.str z), x1] ++ [x1]))
  have d4 : DV K (upd H3 p4 (.tup ([(V.str z), x1] ++ [x1]))) (.ref p4) (.tuple [.str z, frD e1, frD e1]) := .tup (SqT.of upd_same) (.cons (.str _) (.cons (h1.keep (u1.trans (u2.trans (u3.trans (u4))))) (.cons (h1.keep (u1.trans (u2.trans (u3.trans (u4))))) .nil)))
  have t4 : (upd H3 p4 (.tup ([(V.str z), x1] ++ [x1]))) p4 = some (.tup ([(V.str z), x1] ++ [x1])) := upd_same
  generalize upd H3 p4 (.tup ([(V.str z), x1] ++ [x1])) = H4 at u4 d4 t4 ⊢
  refine ⟨_, rfl, rfl, _, rfl, rfl, up0, (by show 1 ≤ sizeLine; decide), fun p5 hp5 => ?_⟩
  have u5 := same_new hp5 (.tup [.str (Txt.upper z)])
  have d5 : DV K (upd H4 p5 (.tup [.str (Txt.upper z)])) (.ref p5) (.tuple [.str (Txt.upper z)]) := .tup (SqT.of upd_same) (.cons (.str _) .nil)
  have t5 : (upd H4 p5 (.tup [.str (Txt.upper z)])) p5 = some (.tup [.str (Txt.upper z)]) := upd_same
  generalize upd H4 p5 (.tup [.str (Txt.upper z)]) = H5 at u5 d5 t5 ⊢
  refine ⟨_, rfl, _, rfl, a, _, rfl, ha.keep (u1.trans (u2.trans (u3.trans (u4.trans (u5))))), (fun e => by rw [sIx1] at e; simp only [List.length_cons, List.length_nil] at e; omega), fun p6 hp6 => ?_⟩
  rw [show cutV [(V.str z), x1] (some 1) none = [x1] from cut1 _]
  have u6 := same_new hp6 (.tup [x1])
  have d6 : DV K (upd H5 p6 (.tup [x1])) (.ref p6) (.tuple [frD e1]) := .tup (SqT.of upd_same) (.cons (h1.keep (u1.trans (u2.trans (u3.trans (u4.trans (u5.trans (u6))))))) .nil)
  have t6 : (upd H5 p6 (.tup [x1])) p6 = some (.tup [x1]) := upd_same
  generalize upd H5 p6 (.tup [x1]) = H6 at u6 d6 t6 ⊢
  refine ⟨p5, p6, _, _, rfl, rfl, SqT.of ((u6) _ _ t5), SqT.of ((Same.refl _) _ _ t6), (fun h => nomatch h), (by show 2 ≤ sizeLine; decide), (fun h => nomatch h), fun _ p7 hp7 => ?_⟩
  have u7 := same_new hp7 (.tup ([(.str (Txt.upper z) : V)] ++ [x1]))
  have d7 : DV K (upd H6 p7 (.tup ([(.str (Txt.upper z) : V)] ++ [x1]))) (.ref p7) (.tuple [.str (Txt.upper z), frD e1]) := .tup (SqT.of upd_same) (.cons (.str _) (.cons (h1.keep (u1.trans (u2.trans (u3.trans (u4.trans (u5.trans (u6.trans (u7)))))))) .nil))
  have t7 : (upd H6 p7 (.tup ([(.str (Txt.upper z) : V)] ++ [x1]))) p7 = some (.tup ([(.str (Txt.upper z) : V)] ++ [x1])) := upd_same
  generalize upd H6 p7 (.tup ([(.str (Txt.upper z) : V)] ++ [x1])) = H7 at u7 d7 t7 ⊢
  refine ⟨(by show 1 ≤ sizeLine; decide), fun p8 hp8 => ?_⟩
  have u8 := same_new hp8 (.tup [.str "lens"])
  have d8 : DV K (upd H7 p8 (.tup [.str "lens"])) (.ref p8) (.tuple [.str "lens"]) := .tup (SqT.of upd_same) (.cons (.str _) .nil)
  have t8 : (upd H7 p8 (.tup [.str "lens"])) p8 = some (.tup [.str "lens"]) := upd_same
  generalize upd H7 p8 (.tup [.str "lens"]) = H8 at u8 d8 t8 ⊢
  refine ⟨_, rfl, _, rfl, a, _, rfl, ha.keep (u1.trans (u2.trans (u3.trans (u4.trans (u5.trans (u6.trans (u7.trans (u8)))))))), (fun e => by rw [sIx1] at e; simp only [List.length_cons, List.length_nil] at e; omega), fun p9 hp9 => ?_⟩
  rw [show cutV [(V.str z), x1] (some 1) none = [x1] from cut1 _]
  have u9 := same_new hp9 (.tup [x1])
  have d9 : DV K (upd H8 p9 (.tup [x1])) (.ref p9) (.tuple [frD e1]) := .tup (SqT.of upd_same) (.cons (h1.keep (u1.trans (u2.trans (u3.trans (u4.trans (u5.trans (u6.trans (u7.trans (u8.trans (u9)))))))))) .nil)
  have t9 : (upd H8 p9 (.tup [x1])) p9 = some (.tup [x1]) := upd_same
  generalize upd H8 p9 (.tup [x1]) = H9 at u9 d9 t9 ⊢
  refine ⟨p8, p9, _, _, rfl, rfl, SqT.of ((u9) _ _ t8), SqT.of ((Same.refl _) _ _ t9), (fun h => nomatch h), (by show 2 ≤ sizeLine; decide), (fun h => nomatch h), fun _ p10 hp10 => ?_⟩
  have u10 := same_new hp10 (.tup ([(.str "lens" : V)] ++ [x1]))
  have d10 : DV K (upd H9 p10 (.tup ([(.str "lens" : V)] ++ [x1]))) (.ref p10) (.tuple [.str "lens", frD e1]) := .tup (SqT.of upd_same) (.cons (.str _) (.cons (h1.keep (u1.trans (u2.trans (u3.trans (u4.trans (u5.trans (u6.trans (u7.trans (u8.trans (u9.trans (u10))))))))))) .nil))
  have t10 : (upd H9 p10 (.tup ([(.str "lens" : V)] ++ [x1]))) p10 = some (.tup ([(.str "lens" : V)] ++ [x1])) := upd_same
  generalize upd H9 p10 (.tup ([(.str "lens" : V)] ++ [x1])) = H10 at u10 d10 t10 ⊢
  refine ⟨_, rfl, _, rfl, a, _, rfl, ha.keep (u1.trans (u2.trans (u3.trans (u4.trans (u5.trans (u6.trans (u7.trans (u8.trans (u9.trans (u10)))))))))), (fun e => by rw [sIx1] at e; simp only [List.length_cons, List.length_nil] at e; omega), fun p11 hp11 => ?_⟩
  rw [show cutV [(V.str z), x1] (some 1) none = [x1] from cut1 _]
  have u11 := same_new hp11 (.tup [x1])
  have d11 : DV K (upd H10 p11 (.tup [x1])) (.ref p11) (.tuple [frD e1]) := .tup (SqT.of upd_same) (.cons (h1.keep (u1.trans (u2.trans (u3.trans (u4.trans (u5.trans (u6.trans (u7.trans (u8.trans (u9.trans (u10.trans (u11)))))))))))) .nil)
  have t11 : (upd H10 p11 (.tup [x1])) p11 = some (.tup [x1]) := upd_same
  generalize upd H10 p11 (.tup [x1]) = H11 at u11 d11 t11 ⊢
  refine ⟨(by show 6 ≤ sizeLine; decide), fun p12 hp12 => ?_⟩
  have u12 := same_new hp12 (.lst [.ref p1, .ref p2, .ref p4, .ref p7, .ref p10, .ref p11])
  have d12 : DV K (upd H11 p12 (.lst [.ref p1, .ref p2, .ref p4, .ref p7, .ref p10, .ref p11])) (.ref p12) (.list [.list [.str z, frD e1], .tuple [.str z], .tuple [.str z, frD e1, frD e1], .tuple [.str (Txt.upper z), frD e1], .tuple [.str "lens", frD e1], .tuple [frD e1]]) := .lst (SqL.of upd_same) (.cons (d1.keep (u2.trans (u3.trans (u4.trans (u5.trans (u6.trans (u7.trans (u8.trans (u9.trans (u10.trans (u11.trans (u12)))))))))))) (.cons (d2.keep (u3.trans (u4.trans (u5.trans (u6.trans (u7.trans (u8.trans (u9.trans (u10.trans (u11.trans (u12))))))))))) (.cons (d4.keep (u5.trans (u6.trans (u7.trans (u8.trans (u9.trans (u10.trans (u11.trans (u12))))))))) (.cons (d7.keep (u8.trans (u9.trans (u10.trans (u11.trans (u12)))))) (.cons (d10.keep (u11.trans (u12))) (.cons (d11.keep (u12)) .nil))))))
  have t12 : (upd H11 p12 (.lst [.ref p1, .ref p2, .ref p4, .ref p7, .ref p10, .ref p11])) p12 = some (.lst [.ref p1, .ref p2, .ref p4, .ref p7, .ref p10, .ref p11]) := upd_same
  have l12 : (upd H11 p12 (.lst [.ref p1, .ref p2, .ref p4, .ref p7, .ref p10, .ref p11])) p12 = some (.lst [.ref p1, .ref p2, .ref p4, .ref p7, .ref p10, .ref p11]) := upd_same
  generalize upd H11 p12 (.lst [.ref p1, .ref p2, .ref p4, .ref p7, .ref p10, .ref p11]) = H12 at u12 d12 t12 l12 ⊢
  refine ⟨_, rfl, _, rfl, (by show 0 ≤ sizeLine; decide), fun p13 hp13 => ?_⟩
  have u13 := same_new hp13 (.tup [])
  have d13 : DV K (upd H12 p13 (.tup [])) (.ref p13) (.tuple []) := .tup (SqT.of upd_same) .nil
  have t13 : (upd H12 p13 (.tup [])) p13 = some (.tup []) := upd_same
  generalize upd H12 p13 (.tup []) = H13 at u13 d13 t13 ⊢
  refine ⟨(by show 1 ≤ sizeLine; decide), fun p14 hp14 => ?_⟩
  have u14 := same_new hp14 (.tup [.int 7])
  have d14 : DV K (upd H13 p14 (.tup [.int 7])) (.ref p14) (.tuple [.int 7]) := .tup (SqT.of upd_same) (.cons (.int _) .nil)
  have t14 : (upd H13 p14 (.tup [.int 7])) p14 = some (.tup [.int 7]) := upd_same
  generalize upd H13 p14 (.tup [.int 7]) = H14 at u14 d14 t14 ⊢
  refine ⟨_, rfl, _, rfl, a, _, rfl, ha.keep (u1.trans (u2.trans (u3.trans (u4.trans (u5.trans (u6.trans (u7.trans (u8.trans (u9.trans (u10.trans (u11.trans (u12.trans (u13.trans (u14)))))))))))))), (fun e => by rw [sIx1] at e; simp only [List.length_cons, List.length_nil] at e; omega), fun p15 hp15 => ?_⟩
  rw [show cutV [(V.str z), x1] (some 1) none = [x1] from cut1 _]
  have u15 := same_new hp15 (.tup [x1])
  have d15 : DV K (upd H14 p15 (.tup [x1])) (.ref p15) (.tuple [frD e1]) := .tup (SqT.of upd_same) (.cons (h1.keep (u1.trans (u2.trans (u3.trans (u4.trans (u5.trans (u6.trans (u7.trans (u8.trans (u9.trans (u10.trans (u11.trans (u12.trans (u13.trans (u14.trans (u15)))))))))))))))) .nil)
  have t15 : (upd H14 p15 (.tup [x1])) p15 = some (.tup [x1]) := upd_same
  generalize upd H14 p15 (.tup [x1]) = H15 at u15 d15 t15 ⊢
  refine ⟨p14, p15, _, _, rfl, rfl, SqT.of ((u15) _ _ t14), SqT.of ((Same.refl _) _ _ t15), (fun h => nomatch h), (by show 2 ≤ sizeLine; decide), (fun h => nomatch h), fun _ p16 hp16 => ?_⟩
  have u16 := same_new hp16 (.tup ([(.int 7 : V)] ++ [x1]))
  have d16 : DV K (upd H15 p16 (.tup ([(.int 7 : V)] ++ [x1]))) (.ref p16) (.tuple [.int 7, frD e1]) := .tup (SqT.of upd_same) (.cons (.int _) (.cons (h1.keep (u1.trans (u2.trans (u3.trans (u4.trans (u5.trans (u6.trans (u7.trans (u8.trans (u9.trans (u10.trans (u11.trans (u12.trans (u13.trans (u14.trans (u15.trans (u16))))))))))))))))) .nil))
  have t16 : (upd H15 p16 (.tup ([(.int 7 : V)] ++ [x1]))) p16 = some (.tup ([(.int 7 : V)] ++ [x1])) := upd_same
  generalize upd H15 p16 (.tup ([(.int 7 : V)] ++ [x1])) = H16 at u16 d16 t16 ⊢
  refine fun p17 hp17 => ⟨_, rfl, _, rfl, _, rfl, a, _, _, _, rfl, rfl, (ha.keep (u1.trans (u2.trans (u3.trans (u4.trans (u5.trans (u6.trans (u7.trans (u8.trans (u9.trans (u10.trans (u11.trans (u12.trans (u13.trans (u14.trans (u15.trans (u16))))))))))))))))).keep (same_new hp17 _), atI1, upd_same, ?_⟩
  rw [upd_upd]
  have u17 := same_new hp17 (.dK [(.inr z, x1)])
  have d17 : DV K (upd H16 p17 (.dK [(.inr z, x1)])) (.ref p17) (.dict []) := .dct upd_same
  generalize upd H16 p17 (.dK [(.inr z, x1)]) = H17 at u17 d17 ⊢
  refine ⟨(by show 1 ≤ sizeLine; decide), fun p18 hp18 => ?_⟩
  have u18 := same_new hp18 (.tup [.str "times"])
  have d18 : DV K (upd H17 p18 (.tup [.str "times"])) (.ref p18) (.tuple [.str "times"]) := .tup (SqT.of upd_same) (.cons (.str _) .nil)
  have t18 : (upd H17 p18 (.tup [.str "times"])) p18 = some (.tup [.str "times"]) := upd_same
  generalize upd H17 p18 (.tup [.str "times"]) = H18 at u18 d18 t18 ⊢
  refine ⟨_, rfl, _, rfl, a, _, rfl, ha.keep (u1.trans (u2.trans (u3.trans (u4.trans (u5.trans (u6.trans (u7.trans (u8.trans (u9.trans (u10.trans (u11.trans (u12.trans (u13.trans (u14.trans (u15.trans (u16.trans (u17.trans (u18)))))))))))))))))), (fun e => by rw [sIx1] at e; simp only [List.length_cons, List.length_nil] at e; omega), fun p19 hp19 => ?_⟩
  rw [show cutV [(V.str z), x1] (some 1) none = [x1] from cut1 _]
  have u19 := same_new hp19 (.tup [x1])
  have d19 : DV K (upd H18 p19 (.tup [x1])) (.ref p19) (.tuple [frD e1]) := .tup (SqT.of upd_same) (.cons (h1.keep (u1.trans (u2.trans (u3.trans (u4.trans (u5.trans (u6.trans (u7.trans (u8.trans (u9.trans (u10.trans (u11.trans (u12.trans (u13.trans (u14.trans (u15.trans (u16.trans (u17.trans (u18.trans (u19)))))))))))))))))))) .nil)
  have t19 : (upd H18 p19 (.tup [x1])) p19 = some (.tup [x1]) := upd_same
  generalize upd H18 p19 (.tup [x1]) = H19 at u19 d19 t19 ⊢
  refine ⟨p18, p19, _, _, rfl, rfl, SqT.of ((u19) _ _ t18), SqT.of ((Same.refl _) _ _ t19), (fun h => nomatch h), (by show 2 ≤ sizeLine; decide), (fun h => nomatch h), fun _ p20 hp20 => ?_⟩
  have u20 := same_new hp20 (.tup ([(.str "times" : V)] ++ [x1]))
  have d20 : DV K (upd H19 p20 (.tup ([(.str "times" : V)] ++ [x1]))) (.ref p20) (.tuple [.str "times", frD e1]) := .tup (SqT.of upd_same) (.cons (.str _) (.cons (h1.keep (u1.trans (u2.trans (u3.trans (u4.trans (u5.trans (u6.trans (u7.trans (u8.trans (u9.trans (u10.trans (u11.trans (u12.trans (u13.trans (u14.trans (u15.trans (u16.trans (u17.trans (u18.trans (u19.trans (u20))))))))))))))))))))) .nil))
  have t20 : (upd H19 p20 (.tup ([(.str "times" : V)] ++ [x1]))) p20 = some (.tup ([(.str "times" : V)] ++ [x1])) := upd_same
  generalize upd H19 p20 (.tup ([(.str "times" : V)] ++ [x1])) = H20 at u20 d20 t20 ⊢
  refine ⟨(by show 7 ≤ sizeLine; decide), fun p21 hp21 => ?_⟩
  have u21 := same_new hp21 (.lst [.non, .str z, .int 7, .ref p13, .ref p16, .ref p17, .ref p20])
  have d21 : DV K (upd H20 p21 (.lst [.non, .str z, .int 7, .ref p13, .ref p16, .ref p17, .ref p20])) (.ref p21) (.list [.none, .str z, .int 7, .tuple [], .tuple [.int 7, frD e1], .dict [], .tuple [.str "times", frD e1]]) := .lst (SqL.of upd_same) (.cons .non (.cons (.str _) (.cons (.int _) (.cons (d13.keep (u14.trans (u15.trans (u16.trans (u17.trans (u18.trans (u19.trans (u20.trans (u21))))))))) (.cons (d16.keep (u17.trans (u18.trans (u19.trans (u20.trans (u21)))))) (.cons (d17.keep (u18.trans (u19.trans (u20.trans (u21))))) (.cons (d20.keep (u21)) .nil)))))))
  have t21 : (upd H20 p21 (.lst [.non, .str z, .int 7, .ref p13, .ref p16, .ref p17, .ref p20])) p21 = some (.lst [.non, .str z, .int 7, .ref p13, .ref p16, .ref p17, .ref p20]) := upd_same
  have l21 : (upd H20 p21 (.lst [.non, .str z, .int 7, .ref p13, .ref p16, .ref p17, .ref p20])) p21 = some (.lst [.non, .str z, .int 7, .ref p13, .ref p16, .ref p17, .ref p20]) := upd_same
  generalize upd H20 p21 (.lst [.non, .str z, .int 7, .ref p13, .ref p16, .ref p17, .ref p20]) = H21 at u21 d21 t21 l21 ⊢
  refine ⟨p12, p21, _, _, rfl, rfl, (u13.trans (u14.trans (u15.trans (u16.trans (u17.trans (u18.trans (u19.trans (u20.trans (u21))))))))) _ _ l12, (Same.refl _) _ _ l21, (by show 13 ≤ sizeLine; decide), fun p22 hp22 => ?_⟩
  have u22 := same_new hp22 (.lst ([(.ref p1 : V), .ref p2, .ref p4, .ref p7, .ref p10, .ref p11] ++ [(.non : V), .str z, .int 7, .ref p13, .ref p16, .ref p17, .ref p20]))
  have l22 : (upd H21 p22 (.lst ([(.ref p1 : V), .ref p2, .ref p4, .ref p7, .ref p10, .ref p11] ++ [(.non : V), .str z, .int 7, .ref p13, .ref p16, .ref p17, .ref p20]))) p22 = some (.lst ([(.ref p1 : V), .ref p2, .ref p4, .ref p7, .ref p10, .ref p11] ++ [(.non : V), .str z, .int 7, .ref p13, .ref p16, .ref p17, .ref p20])) := upd_same
  generalize upd H21 p22 (.lst ([(.ref p1 : V), .ref p2, .ref p4, .ref p7, .ref p10, .ref p11] ++ [(.non : V), .str z, .int 7, .ref p13, .ref p16, .ref p17, .ref p20])) = H22 at u22 l22 ⊢
  refine ⟨_, rfl, .inl ⟨rfl, _, SqL.of l22⟩, (by show 2 ≤ sizeLine; decide), fun p23 hp23 => ?_⟩
  have u23 := same_new hp23 (.lst [.str "stop", .str "gap"])
  have d23 : DV K (upd H22 p23 (.lst [.str "stop", .str "gap"])) (.ref p23) (.list [.str "stop", .str "gap"]) := .lst (SqL.of upd_same) (.cons (.str _) (.cons (.str _) .nil))
  have t23 : (upd H22 p23 (.lst [.str "stop", .str "gap"])) p23 = some (.lst [.str "stop", .str "gap"]) := upd_same
  have l23 : (upd H22 p23 (.lst [.str "stop", .str "gap"])) p23 = some (.lst [.str "stop", .str "gap"]) := upd_same
  generalize upd H22 p23 (.lst [.str "stop", .str "gap"]) = H23 at u23 d23 t23 l23 ⊢
  refine ⟨_, rfl, rfl, .inr ⟨_, rfl, ?_⟩⟩
  rw [hd, if_neg Bool.false_ne_true]
  refine ⟨p23, _, _, _, rfl, rfl, SqL.of l23, atI0, (by show 1 ≤ sizeLine; decide), fun p24 hp24 => ?_⟩
  have u24 := same_new hp24 (.tup [.str "stop"])
  have d24 : DV K (upd H23 p24 (.tup [.str "stop"])) (.ref p24) (.tuple [.str "stop"]) := .tup (SqT.of upd_same) (.cons (.str _) .nil)
  have t24 : (upd H23 p24 (.tup [.str "stop"])) p24 = some (.tup [.str "stop"]) := upd_same
  generalize upd H23 p24 (.tup [.str "stop"]) = H24 at u24 d24 t24 ⊢
  refine ⟨_, rfl, _, rfl, a, _, rfl, ha.keep (u1.trans (u2.trans (u3.trans (u4.trans (u5.trans (u6.trans (u7.trans (u8.trans (u9.trans (u10.trans (u11.trans (u12.trans (u13.trans (u14.trans (u15.trans (u16.trans (u17.trans (u18.trans (u19.trans (u20.trans (u21.trans (u22.trans (u23.trans (u24)))))))))))))))))))))))), (fun e => by rw [sIx1] at e; simp only [List.length_cons, List.length_nil] at e; omega), fun p25 hp25 => ?_⟩
  rw [show cutV [(V.str z), x1] (some 1) none = [x1] from cut1 _]
  have u25 := same_new hp25 (.tup [x1])
  have d25 : DV K (upd H24 p25 (.tup [x1])) (.ref p25) (.tuple [frD e1]) := .tup (SqT.of upd_same) (.cons (h1.keep (u1.trans (u2.trans (u3.trans (u4.trans (u5.trans (u6.trans (u7.trans (u8.trans (u9.trans (u10.trans (u11.trans (u12.trans (u13.trans (u14.trans (u15.trans (u16.trans (u17.trans (u18.trans (u19.trans (u20.trans (u21.trans (u22.trans (u23.trans (u24.trans (u25)))))))))))))))))))))))))) .nil)
  have t25 : (upd H24 p25 (.tup [x1])) p25 = some (.tup [x1]) := upd_same
  generalize upd H24 p25 (.tup [x1]) = H25 at u25 d25 t25 ⊢
  refine ⟨p24, p25, _, _, rfl, rfl, SqT.of ((u25) _ _ t24), SqT.of ((Same.refl _) _ _ t25), (fun h => nomatch h), (by show 2 ≤ sizeLine; decide), (fun h => nomatch h), fun _ p26 hp26 => ?_⟩
  have u26 := same_new hp26 (.tup ([(.str "stop" : V)] ++ [x1]))
  have d26 : DV K (upd H25 p26 (.tup ([(.str "stop" : V)] ++ [x1]))) (.ref p26) (.tuple [.str "stop", frD e1]) := .tup (SqT.of upd_same) (.cons (.str _) (.cons (h1.keep (u1.trans (u2.trans (u3.trans (u4.trans (u5.trans (u6.trans (u7.trans (u8.trans (u9.trans (u10.trans (u11.trans (u12.trans (u13.trans (u14.trans (u15.trans (u16.trans (u17.trans (u18.trans (u19.trans (u20.trans (u21.trans (u22.trans (u23.trans (u24.trans (u25.trans (u26))))))))))))))))))))))))))) .nil))
  have t26 : (upd H25 p26 (.tup ([(.str "stop" : V)] ++ [x1]))) p26 = some (.tup ([(.str "stop" : V)] ++ [x1])) := upd_same
  generalize upd H25 p26 (.tup ([(.str "stop" : V)] ++ [x1])) = H26 at u26 d26 t26 ⊢
  refine ⟨p22, _, _, rfl, rfl, (u23.trans (u24.trans (u25.trans (u26)))) _ _ l22, small1000 (by simp), ?_⟩
  have ub : Same H21 (upd H26 p22 (.lst (([(.ref p1 : V), .ref p2, .ref p4, .ref p7, .ref p10, .ref p11] ++ [(.non : V), .str z, .int 7, .ref p13, .ref p16, .ref p17, .ref p20]) ++ [.ref p26]))) := same_put (u22.trans (u23.trans (u24.trans (u25.trans (u26))))) hp22
  have l27 : (upd H26 p22 (.lst (([(.ref p1 : V), .ref p2, .ref p4, .ref p7, .ref p10, .ref p11] ++ [(.non : V), .str z, .int 7, .ref p13, .ref p16, .ref p17, .ref p20]) ++ [.ref p26]))) p22 = some (.lst (([(.ref p1 : V), .ref p2, .ref p4, .ref p7, .ref p10, .ref p11] ++ [(.non : V), .str z, .int 7, .ref p13, .ref p16, .ref p17, .ref p20]) ++ [.ref p26])) := upd_same
  have ne : p26 ≠ p22 := fun e => by have := (u23.trans (u24.trans (u25))) _ _ l22; rw [← e, hp26] at this; cases this
  have t27 : (upd H26 p22 (.lst (([(.ref p1 : V), .ref p2, .ref p4, .ref p7, .ref p10, .ref p11] ++ [(.non : V), .str z, .int 7, .ref p13, .ref p16, .ref p17, .ref p20]) ++ [.ref p26]))) p26 = _ := (upd_ne ne).trans t26
  generalize upd H26 p22 (.lst (([(.ref p1 : V), .ref p2, .ref p4, .ref p7, .ref p10, .ref p11] ++ [(.non : V), .str z, .int 7, .ref p13, .ref p16, .ref p17, .ref p20]) ++ [.ref p26])) = H27 at ub l27 t27 ⊢
  have d27 : DV K H27 (.ref p26) (.tuple [.str "stop", frD e1]) := .tup (SqT.of t27) (.cons (.str _) (.cons (h1.keep (u1.trans (u2.trans (u3.trans (u4.trans (u5.trans (u6.trans (u7.trans (u8.trans (u9.trans (u10.trans (u11.trans (u12.trans (u13.trans (u14.trans (u15.trans (u16.trans (u17.trans (u18.trans (u19.trans (u20.trans (u21.trans (ub))))))))))))))))))))))) .nil))
  refine ⟨_, rfl, rfl, _, rfl, iteF' hd (iteF ?_)⟩
  have all : DVs K H27 [.ref p1, .ref p2, .ref p4, .ref p7, .ref p10, .ref p11, .non, .str z, .int 7, .ref p13, .ref p16, .ref p17, .ref p20, .ref p26] [.list [.str z, frD e1], .tuple [.str z], .tuple [.str z, frD e1, frD e1], .tuple [.str (Txt.upper z), frD e1], .tuple [.str "lens", frD e1], .tuple [frD e1], .none, .str z, .int 7, .tuple [], .tuple [.int 7, frD e1], .dict [], .tuple [.str "times", frD e1], .tuple [.str "stop", frD e1]] := (.cons (d1.keep (u2.trans (u3.trans (u4.trans (u5.trans (u6.trans (u7.trans (u8.trans (u9.trans (u10.trans (u11.trans (u12.trans (u13.trans (u14.trans (u15.trans (u16.trans (u17.trans (u18.trans (u19.trans (u20.trans (u21.trans (ub)))))))))))))))))))))) (.cons (d2.keep (u3.trans (u4.trans (u5.trans (u6.trans (u7.trans (u8.trans (u9.trans (u10.trans (u11.trans (u12.trans (u13.trans (u14.trans (u15.trans (u16.trans (u17.trans (u18.trans (u19.trans (u20.trans (u21.trans (ub))))))))))))))))))))) (.cons (d4.keep (u5.trans (u6.trans (u7.trans (u8.trans (u9.trans (u10.trans (u11.trans (u12.trans (u13.trans (u14.trans (u15.trans (u16.trans (u17.trans (u18.trans (u19.trans (u20.trans (u21.trans (ub))))))))))))))))))) (.cons (d7.keep (u8.trans (u9.trans (u10.trans (u11.trans (u12.trans (u13.trans (u14.trans (u15.trans (u16.trans (u17.trans (u18.trans (u19.trans (u20.trans (u21.trans (ub)))))))))))))))) (.cons (d10.keep (u11.trans (u12.trans (u13.trans (u14.trans (u15.trans (u16.trans (u17.trans (u18.trans (u19.trans (u20.trans (u21.trans (ub))))))))))))) (.cons (d11.keep (u12.trans (u13.trans (u14.trans (u15.trans (u16.trans (u17.trans (u18.trans (u19.trans (u20.trans (u21.trans (ub)))))))))))) (.cons .non (.cons (.str _) (.cons (.int _) (.cons (d13.keep (u14.trans (u15.trans (u16.trans (u17.trans (u18.trans (u19.trans (u20.trans (u21.trans (ub)))))))))) (.cons (d16.keep (u17.trans (u18.trans (u19.trans (u20.trans (u21.trans (ub))))))) (.cons (d17.keep (u18.trans (u19.trans (u20.trans (u21.trans (ub)))))) (.cons (d20.keep (u21.trans (ub))) (.cons d27 .nil))))))))))))))
  have odd : ∀ d ∈ [(.list [.str z, frD e1] : PyData), .tuple [.str z], .tuple [.str z, frD e1, frD e1], .tuple [.str (Txt.upper z), frD e1], .tuple [.str "lens", frD e1], .tuple [frD e1], .none, .str z, .int 7, .tuple [], .tuple [.int 7, frD e1], .dict [], .tuple [.str "times", frD e1], .tuple [.str "stop", frD e1]], OddB d := fun d hd => by
    simp only [List.mem_cons, List.not_mem_nil, or_false] at hd
    rcases hd with rfl | rfl | rfl | rfl | rfl | rfl | rfl | rfl | rfl | rfl | rfl | rfl | rfl | rfl
    · exact odd_no (fun _ h => nomatch h)
    · exact odd_one _
    · exact odd_long (e1 := e1) (e2 := e1) (es := []) nz B3 (by decide)
    · exact odd_word (es := [e1]) up1 up2 up3 B (by simp)
    · exact odd_word (es := [e1]) (by decide) (by decide) (by decide) B (by simp)
    · exact odd_frs (e := e1) (es := []) B (by simp)
    · exact odd_no (fun _ h => nomatch h)
    · exact odd_no (fun _ h => nomatch h)
    · exact odd_no (fun _ h => nomatch h)
    · exact odd_nil
    · exact odd_int (es := [e1]) B (by simp)
    · exact odd_no (fun _ h => nomatch h)
    · exact odd_word (es := [e1]) (by decide) (by decide) (by decide) B (by simp)
    · exact odd_stop1 b1
  exact kR a p22 zc z x1 [] _ _ e1 [] _ _ _ _ _ (ha.keep (u1.trans (u2.trans (u3.trans (u4.trans (u5.trans (u6.trans (u7.trans (u8.trans (u9.trans (u10.trans (u11.trans (u12.trans (u13.trans (u14.trans (u15.trans (u16.trans (u17.trans (u18.trans (u19.trans (u20.trans (u21.trans (ub))))))))))))))))))))))) (h1.keep (u1.trans (u2.trans (u3.trans (u4.trans (u5.trans (u6.trans (u7.trans (u8.trans (u9.trans (u10.trans (u11.trans (u12.trans (u13.trans (u14.trans (u15.trans (u16.trans (u17.trans (u18.trans (u19.trans (u20.trans (u21.trans (ub))))))))))))))))))))))) .nil b1 (fun _ h => nomatch h) (by simp) l27 all odd (by simp) fun v d H' s' hv o => q v d H' ((u1.trans (u2.trans (u3.trans (u4.trans (u5.trans (u6.trans (u7.trans (u8.trans (u9.trans (u10.trans (u11.trans (u12.trans (u13.trans (u14.trans (u15.trans (u16.trans (u17.trans (u18.trans (u19.trans (u20.trans (u21.trans (ub)))))))))))))))))))))).trans s') hv o
end
end K07
namespace K07
open PySem L2 Lib Fr Op
seal PE PT PW PA PS PSs PG PGs PI PO PIfs
section
variable {P : Program} {w : World} {K : PySem.W.Frag} {mg : Str → Option Value} {base : Heap} {ad : Adr} {c : Bool}
theorem w_stop (T : Txt K mg ad) {f : Addr} {cdv : Value} {A : Around} {outer : List Env} {s : Shared} {H : Hp} {E : XK} (hr : RoomB true 1 (cxB true P w K mg base ["_law_piece_here", "_law_cell", "_law_word", "_law_others", "_law_top", "_law_bottom", "_law_parts"] "_law_wrong" (defScope s__law_wrong) f cdv A outer s H E).nox.A) {tR : TS} (hR : PSs (cxB true P w K mg base ["_law_piece_here", "_law_cell", "_law_word", "_law_others", "_law_top", "_law_bottom", "_law_parts"] "_law_wrong" (defScope s__law_wrong) f cdv A outer s H E).nox (wrong.drop 5) tR)
    (kR : ∀ (a p : Addr) (zc : Int) (z : Str) (x1 : V) (rest L : List V) (ds : List PyData) (e1 : Rat) (es : List Rat) (c4 c5 c6 : Option V) (H0 : Hp) (D : Ends), SqT K H0 a (.str z :: x1 :: rest) → DV K H0 x1 (frD e1) → DVs K H0 rest (es.map frD) → Bd 50 e1 → (∀ e ∈ es, Bd 50 e) → es.length ≤ 1 →
      H0 p = some (.lst L) → DVs K H0 L ds → (∀ d ∈ ds, OddB d) → 0 < L.length →
      (∀ v d H', Same H0 H' → DV K H' v d → OddB d → D.rt v H') → tR D [some (.ref a), some (.int zc), some (.str z), some (.ref p), c4, c5, c6] H0) : ∃ tr, PSs (cxB true P w K mg base ["_law_piece_here", "_law_cell", "_law_word", "_law_others", "_law_top", "_law_bottom", "_law_parts"] "_law_wrong" (defScope s__law_wrong) f cdv A outer s H E).nox wrong tr ∧
    ∀ (a : Addr) (zc : Int) (x1 x2 : V) (e1 e2 : Rat) (c2 c3 c4 c5 c6 : Option V) (H0 : Hp) (D : Ends), SqT K H0 a [.str "stop", x1, x2] → DV K H0 x1 (frD e1) → DV K H0 x2 (frD e2) → Bd 50 e1 → Bd 50 e2 → ¬ e2 < e1 → 
      (∀ v d H', Same H0 H' → DV K H' v d → OddB d → D.rt v H') → tr D [some (.ref a), some (.int zc), c2, c3, c4, c5, c6] H0 := by
  refine ⟨_, (pss_cons (ps_set (i := 2) sc__law_wrong.nd rfl (Or.inl rfl) (pe_ix ix_tup (pv 0) pe_int (fun _ _ => rfl))) (pss_cons (ps_set (i := 3) sc__law_wrong.nd rfl (Or.inl rfl) (pe_lst (pa_call (pe_callTy call_list_of rfl T.list bt_list (pa_name (pv 0) pa_nil)) (pa_tuple (pe_tup (pa_name (pv 2) pa_nil)) (pa_bin (pe_op op_catT (pv 0) (pe_tup (pa_sub (pe_ix ix_tup (pv 0) pe_int (fun _ _ => rfl)) pa_nil))) (pa_bin (pe_op op_catT (pe_tup (pa_call (pe_bm0 PySem.F.plainAttrs_str PySem.F.slot_str_upper PySem.F.type_str_upper mt_upper (pv 2)) pa_nil)) (pe_slice sl_tup (pv 0) (po_some pe_int) po_none)) (pa_bin (pe_op op_catT (pe_tup (pa_const pe_str pa_nil)) (pe_slice sl_tup (pv 0) (po_some pe_int) po_none)) (pa_sub (pe_slice sl_tup (pv 0) (po_some pe_int) po_none) pa_nil)))))))) (pss_cons (ps_set (i := 3) sc__law_wrong.nd rfl (Or.inl rfl) (pe_op op_cat (pv 3) (pe_lst (pa_const pe_non (pa_name (pv 2) (pa_const pe_int (pa_tuple (pe_tup pa_nil) (pa_bin (pe_op op_catT (pe_tup (pa_const pe_int pa_nil)) (pe_slice sl_tup (pv 0) (po_some pe_int) po_none)) (pa_dict (pe_d1 (pv 2) (pe_ix ix_tup (pv 0) pe_int (fun _ _ => rfl))) (pa_bin (pe_op op_catT (pe_tup (pa_const pe_str pa_nil)) (pe_slice sl_tup (pv 0) (po_some pe_int) po_none)) pa_nil)))))))))) (pss_cons (ps_expr (pe_bm PySem.F.plainAttrs_list PySem.F.slot_list_append PySem.F.type_list_append mt_append (pv 3) (pa_bin (pe_op op_catT (pe_tup (pa_sub (pe_ix ix_list (pe_lst (pa_const pe_str (pa_const pe_str pa_nil))) (pe_callTy call_int1 rfl T.int bt_int (pa_cmp (pe_cmpR op_eq (pv 2) pe_str (nomark _)) pa_nil)) (fun _ _ => rfl)) pa_nil)) (pe_slice sl_tup (pv 0) (po_some pe_int) po_none)) pa_nil))) (pss_cons (ps_if (PW.pt (pw_and (pt_cmpR op_eq (pv 2) pe_str (nomark _)) (pw_and1 (pt_cmpR (op_neD hr.units) (pe_ix ix_tup (pv 0) pe_int (fun _ _ => rfl)) (pe_ix ix_tup (pv 0) pe_int (fun _ _ => rfl)) (nomark _))))) (pss_one (ps_set (i := 3) sc__law_wrong.nd rfl (Or.inl rfl) (pe_op op_cat (pv 3) (pe_op op_rep (pe_lst (pa_tuple (pe_tup (pa_name (pv 2) (pa_sub (pe_ix ix_tup (pv 0) pe_int (fun _ _ => rfl)) (pa_sub (pe_ix ix_tup (pv 0) pe_int (fun _ _ => rfl)) pa_nil)))) pa_nil)) pe_int)))) pss_nil) hR))))), ?_⟩
  intro a zc x1 x2 e1 e2 c2 c3 c4 c5 c6 H0 D ha h1 h2 b1 b2 ok q
  have hd : decide (V.str ("stop" : Str) = V.str "stop") = true := by decide
  have up0 : PySem.Builtin.Str.tooLong (Txt.upper "stop").length = false := by decide +kernel
  have up1 : Txt.upper "stop" ≠ "stop" := by decide +kernel
  have up2 : Txt.upper "stop" ≠ "gap" := by decide +kernel
  have up3 : Txt.upper "stop" ≠ "glass" := by decide +kernel
  have B : ∀ e ∈ [e1, e2], Bd 50 e := fun e he => by simp only [List.mem_cons, List.not_mem_nil, or_false] at he; rcases he with rfl | rfl <;> assumption
  have B3 : ∀ e ∈ [e1, e2, e1], Bd 50 e := fun e he => by simp only [List.mem_cons, List.not_mem_nil, or_false] at he; rcases he with rfl | rfl | rfl <;> assumption
  refine ⟨_, rfl, a, _, _, _, rfl, rfl, ha, atI0, _, rfl, a, _, rfl, .inr (ha.keep (Same.refl _)), fun p1 hp1 => ?_⟩
  have u1 := same_new hp1 (.lst [(V.str "stop"), x1, x2])
  have d1 : DV K (upd H0 p1 (.lst [(V.str "stop"), x1, x2])) (.ref p1) (.list [.str "stop", frD e1, frD e2]) := .lst (SqL.of upd_same) (.cons (.str _) (.cons (h1.keep (u1)) (.cons (h2.keep (u1)) .nil)))
  generalize upd H0 p1 (.lst [(V.str "stop"), x1, x2]) = H1 at u1 d1 ⊢
  refine ⟨_, rfl, (by show 1 ≤ sizeLine; decide), fun p2 hp2 => ?_⟩
  have u2 := same_new hp2 (.tup [.str "stop"])
  have d2 : DV K (upd H1 p2 (.tup [.str "stop"])) (.ref p2) (.tuple [.str "stop"]) := .tup (SqT.of upd_same) (.cons (.str _) .nil)
  have t2 : (upd H1 p2 (.tup [.str "stop"])) p2 = some (.tup [.str "stop"]) := upd_same
  generalize upd H1 p2 (.tup [.str "stop"]) = H2 at u2 d2 t2 ⊢
  refine ⟨_, rfl, _, rfl, a, _, _, _, rfl, rfl, ha.keep (u1.trans (u2)), atI1, (by show 1 ≤ sizeLine; decide), fun p3 hp3 => ?_⟩
  have u3 := same_new hp3 (.tup [x1])
  have d3 : DV K (upd H2 p3 (.tup [x1])) (.ref p3) (.tuple [frD e1]) := .tup (SqT.of upd_same) (.cons (h1.keep (u1.trans (u2.trans (u3)))) .nil)
  have t3 : (upd H2 p3 (.tup [x1])) p3 = some (.tup [x1]) := upd_same
  generalize upd H2 p3 (.tup [x1]) = H3 at u3 d3 t3 ⊢
  refine ⟨a, p3, _, _, rfl, rfl, ha.keep (u1.trans (u2.trans (u3))), SqT.of ((Same.refl _) _ _ t3), (fun h => nomatch h), (by show 4 ≤ sizeLine; decide), (fun h => nomatch h), fun _ p4 hp4 => ?_⟩
  have u4 := same_new hp4 (.tup ([(V.str "stop"), x1, x2] ++ [x1]))
  have d4 : DV K (upd H3 p4 (.tup ([(V.str "stop"), x1, x2] ++ [x1]))) (.ref p4) (.tuple [.str "stop", frD e1, frD e2, frD e1]) := .tup (SqT.of upd_same) (.cons (.str _) (.cons (h1.keep (u1.trans (u2.trans (u3.trans (u4))))) (.cons (h2.keep (u1.trans (u2.trans (u3.trans (u4))))) (.cons (h1.keep (u1.trans (u2.trans (u3.trans (u4))))) .nil))))
  have t4 : (upd H3 p4 (.tup ([(V.str "stop"), x1, x2] ++ [x1]))) p4 = some (.tup ([(V.str "stop"), x1, x2] ++ [x1])) := upd_same
  generalize upd H3 p4 (.tup ([(V.str "stop"), x1, x2] ++ [x1])) = H4 at u4 d4 t4 ⊢
  refine ⟨_, rfl, rfl, _, rfl, rfl, up0, (by show 1 ≤ sizeLine; decide), fun p5 hp5 => ?_⟩
  have u5 := same_new hp5 (.tup [.str (Txt.upper "stop")])
  have d5 : DV K (upd H4 p5 (.tup [.str (Txt.upper "stop")])) (.ref p5) (.tuple [.str (Txt.upper "stop")]) := .tup (SqT.of upd_same) (.cons (.str _) .nil)
  have t5 : (upd H4 p5 (.tup [.str (Txt.upper "stop")])) p5 = some (.tup [.str (Txt.upper "stop")]) := upd_same
  generalize upd H4 p5 (.tup [.str (Txt.upper "stop")]) = H5 at u5 d5 t5 ⊢
  refine ⟨_, rfl, _, rfl, a, _, rfl, ha.keep (u1.trans (u2.trans (u3.trans (u4.trans (u5))))), (fun e => by rw [sIx1] at e; simp only [List.length_cons, List.length_nil] at e; omega), fun p6 hp6 => ?_⟩
  rw [show cutV [(V.str "stop"), x1, x2] (some 1) none = [x1, x2] from cut1 _]
  have u6 := same_new hp6 (.tup [x1, x2])
  have d6 : DV K (upd H5 p6 (.tup [x1, x2])) (.ref p6) (.tuple [frD e1, frD e2]) := .tup (SqT.of upd_same) (.cons (h1.keep (u1.trans (u2.trans (u3.trans (u4.trans (u5.trans (u6))))))) (.cons (h2.keep (u1.trans (u2.trans (u3.trans (u4.trans (u5.trans (u6))))))) .nil))
  have t6 : (upd H5 p6 (.tup [x1, x2])) p6 = some (.tup [x1, x2]) := upd_same
  generalize upd H5 p6 (.tup [x1, x2]) = H6 at u6 d6 t6 ⊢
  refine ⟨p5, p6, _, _, rfl, rfl, SqT.of ((u6) _ _ t5), SqT.of ((Same.refl _) _ _ t6), (fun h => nomatch h), (by show 3 ≤ sizeLine; decide), (fun h => nomatch h), fun _ p7 hp7 => ?_⟩
  have u7 := same_new hp7 (.tup ([(.str (Txt.upper "stop") : V)] ++ [x1, x2]))
  have d7 : DV K (upd H6 p7 (.tup ([(.str (Txt.upper "stop") : V)] ++ [x1, x2]))) (.ref p7) (.tuple [.str (Txt.upper "stop"), frD e1, frD e2]) := .tup (SqT.of upd_same) (.cons (.str _) (.cons (h1.keep (u1.trans (u2.trans (u3.trans (u4.trans (u5.trans (u6.trans (u7)))))))) (.cons (h2.keep (u1.trans (u2.trans (u3.trans (u4.trans (u5.trans (u6.trans (u7)))))))) .nil)))
  have t7 : (upd H6 p7 (.tup ([(.str (Txt.upper "stop") : V)] ++ [x1, x2]))) p7 = some (.tup ([(.str (Txt.upper "stop") : V)] ++ [x1, x2])) := upd_same
  generalize upd H6 p7 (.tup ([(.str (Txt.upper "stop") : V)] ++ [x1, x2])) = H7 at u7 d7 t7 ⊢
  refine ⟨(by show 1 ≤ sizeLine; decide), fun p8 hp8 => ?_⟩
  have u8 := same_new hp8 (.tup [.str "lens"])
  have d8 : DV K (upd H7 p8 (.tup [.str "lens"])) (.ref p8) (.tuple [.str "lens"]) := .tup (SqT.of upd_same) (.cons (.str _) .nil)
  have t8 : (upd H7 p8 (.tup [.str "lens"])) p8 = some (.tup [.str "lens"]) := upd_same
  generalize upd H7 p8 (.tup [.str "lens"]) = H8 at u8 d8 t8 ⊢
  refine ⟨_, rfl, _, rfl, a, _, rfl, ha.keep (u1.trans (u2.trans (u3.trans (u4.trans (u5.trans (u6.trans (u7.trans (u8)))))))), (fun e => by rw [sIx1] at e; simp only [List.length_cons, List.length_nil] at e; omega), fun p9 hp9 => ?_⟩
  rw [show cutV [(V.str "stop"), x1, x2] (some 1) none = [x1, x2] from cut1 _]
  have u9 := same_new hp9 (.tup [x1, x2])
  have d9 : DV K (upd H8 p9 (.tup [x1, x2])) (.ref p9) (.tuple [frD e1, frD e2]) := .tup (SqT.of upd_same) (.cons (h1.keep (u1.trans (u2.trans (u3.trans (u4.trans (u5.trans (u6.trans (u7.trans (u8.trans (u9)))))))))) (.cons (h2.keep (u1.trans (u2.trans (u3.trans (u4.trans (u5.trans (u6.trans (u7.trans (u8.trans (u9)))))))))) .nil))
  have t9 : (upd H8 p9 (.tup [x1, x2])) p9 = some (.tup [x1, x2]) := upd_same
  generalize upd H8 p9 (.tup [x1, x2]) = H9 at u9 d9 t9 ⊢
  refine ⟨p8, p9, _, _, rfl, rfl, SqT.of ((u9) _ _ t8), SqT.of ((Same.refl _) _ _ t9), (fun h => nomatch h), (by show 3 ≤ sizeLine; decide), (fun h => nomatch h), fun _ p10 hp10 => ?_⟩
  have u10 := same_new hp10 (.tup ([(.str "lens" : V)] ++ [x1, x2]))
  have d10 : DV K (upd H9 p10 (.tup ([(.str "lens" : V)] ++ [x1, x2]))) (.ref p10) (.tuple [.str "lens", frD e1, frD e2]) := .tup (SqT.of upd_same) (.cons (.str _) (.cons (h1.keep (u1.trans (u2.trans (u3.trans (u4.trans (u5.trans (u6.trans (u7.trans (u8.trans (u9.trans (u10))))))))))) (.cons (h2.keep (u1.trans (u2.trans (u3.trans (u4.trans (u5.trans (u6.trans (u7.trans (u8.trans (u9.trans (u10))))))))))) .nil)))
  have t10 : (upd H9 p10 (.tup ([(.str "lens" : V)] ++ [x1, x2]))) p10 = some (.tup ([(.str "lens" : V)] ++ [x1, x2])) := upd_same
  generalize upd H9 p10 (.tup ([(.str "lens" : V)] ++ [x1, x2])) = H10 at u10 d10 t10 ⊢
  refine ⟨_, rfl, _, rfl, a, _, rfl, ha.keep (u1.trans (u2.trans (u3.trans (u4.trans (u5.trans (u6.trans (u7.trans (u8.trans (u9.trans (u10)))))))))), (fun e => by rw [sIx1] at e; simp only [List.length_cons, List.length_nil] at e; omega), fun p11 hp11 => ?_⟩
  rw [show cutV [(V.str "stop"), x1, x2] (some 1) none = [x1, x2] from cut1 _]
  have u11 := same_new hp11 (.tup [x1, x2])
  have d11 : DV K (upd H10 p11 (.tup [x1, x2])) (.ref p11) (.tuple [frD e1, frD e2]) := .tup (SqT.of upd_same) (.cons (h1.keep (u1.trans (u2.trans (u3.trans (u4.trans (u5.trans (u6.trans (u7.trans (u8.trans (u9.trans (u10.trans (u11)))))))))))) (.cons (h2.keep (u1.trans (u2.trans (u3.trans (u4.trans (u5.trans (u6.trans (u7.trans (u8.trans (u9.trans (u10.trans (u11)))))))))))) .nil))
  have t11 : (upd H10 p11 (.tup [x1, x2])) p11 = some (.tup [x1, x2]) := upd_same
  generalize upd H10 p11 (.tup [x1, x2]) = H11 at u11 d11 t11 ⊢
  refine ⟨(by show 6 ≤ sizeLine; decide), fun p12 hp12 => ?_⟩
  have u12 := same_new hp12 (.lst [.ref p1, .ref p2, .ref p4, .ref p7, .ref p10, .ref p11])
  have d12 : DV K (upd H11 p12 (.lst [.ref p1, .ref p2, .ref p4, .ref p7, .ref p10, .ref p11])) (.ref p12) (.list [.list [.str "stop", frD e1, frD e2], .tuple [.str "stop"], .tuple [.str "stop", frD e1, frD e2, frD e1], .tuple [.str (Txt.upper "stop"), frD e1, frD e2], .tuple [.str "lens", frD e1, frD e2], .tuple [frD e1, frD e2]]) := .lst (SqL.of upd_same) (.cons (d1.keep (u2.trans (u3.trans (u4.trans (u5.trans (u6.trans (u7.trans (u8.trans (u9.trans (u10.trans (u11.trans (u12)))))))))))) (.cons (d2.keep (u3.trans (u4.trans (u5.trans (u6.trans (u7.trans (u8.trans (u9.trans (u10.trans (u11.trans (u12))))))))))) (.cons (d4.keep (u5.trans (u6.trans (u7.trans (u8.trans (u9.trans (u10.trans (u11.trans (u12))))))))) (.cons (d7.keep (u8.trans (u9.trans (u10.trans (u11.trans (u12)))))) (.cons (d10.keep (u11.trans (u12))) (.cons (d11.keep (u12)) .nil))))))
  have t12 : (upd H11 p12 (.lst [.ref p1, .ref p2, .ref p4, .ref p7, .ref p10, .ref p11])) p12 = some (.lst [.ref p1, .ref p2, .ref p4, .ref p7, .ref p10, .ref p11]) := upd_same
  have l12 : (upd H11 p12 (.lst [.ref p1, .ref p2, .ref p4, .ref p7, .ref p10, .ref p11])) p12 = some (.lst [.ref p1, .ref p2, .ref p4, .ref p7, .ref p10, .ref p11]) := upd_same
  generalize upd H11 p12 (.lst [.ref p1, .ref p2, .ref p4, .ref p7, .ref p10, .ref p11]) = H12 at u12 d12 t12 l12 ⊢
  refine ⟨_, rfl, _, rfl, (by show 0 ≤ sizeLine; decide), fun p13 hp13 => ?_⟩
  have u13 := same_new hp13 (.tup [])
  have d13 : DV K (upd H12 p13 (.tup [])) (.ref p13) (.tuple []) := .tup (SqT.of upd_same) .nil
  have t13 : (upd H12 p13 (.tup [])) p13 = some (.tup []) := upd_same
  generalize upd H12 p13 (.tup []) = H13 at u13 d13 t13 ⊢
  refine ⟨(by show 1 ≤ sizeLine; decide), fun p14 hp14 => ?_⟩
  have u14 := same_new hp14 (.tup [.int 7])
  have d14 : DV K (upd H13 p14 (.tup [.int 7])) (.ref p14) (.tuple [.int 7]) := .tup (SqT.of upd_same) (.cons (.int _) .nil)
  have t14 : (upd H13 p14 (.tup [.int 7])) p14 = some (.tup [.int 7]) := upd_same
  generalize upd H13 p14 (.tup [.int 7]) = H14 at u14 d14 t14 ⊢
  refine ⟨_, rfl, _, rfl, a, _, rfl, ha.keep (u1.trans (u2.trans (u3.trans (u4.trans (u5.trans (u6.trans (u7.trans (u8.trans (u9.trans (u10.trans (u11.trans (u12.trans (u13.trans (u14)))))))))))))), (fun e => by rw [sIx1] at e; simp only [List.length_cons, List.length_nil] at e; omega), fun p15 hp15 => ?_⟩
  rw [show cutV [(V.str "stop"), x1, x2] (some 1) none = [x1, x2] from cut1 _]
  have u15 := same_new hp15 (.tup [x1, x2])
  have d15 : DV K (upd H14 p15 (.tup [x1, x2])) (.ref p15) (.tuple [frD e1, frD e2]) := .tup (SqT.of upd_same) (.cons (h1.keep (u1.trans (u2.trans (u3.trans (u4.trans (u5.trans (u6.trans (u7.trans (u8.trans (u9.trans (u10.trans (u11.trans (u12.trans (u13.trans (u14.trans (u15)))))))))))))))) (.cons (h2.keep (u1.trans (u2.trans (u3.trans (u4.trans (u5.trans (u6.trans (u7.trans (u8.trans (u9.trans (u10.trans (u11.trans (u12.trans (u13.trans (u14.trans (u15)))))))))))))))) .nil))
  have t15 : (upd H14 p15 (.tup [x1, x2])) p15 = some (.tup [x1, x2]) := upd_same
  generalize upd H14 p15 (.tup [x1, x2]) = H15 at u15 d15 t15 ⊢
  refine ⟨p14, p15, _, _, rfl, rfl, SqT.of ((u15) _ _ t14), SqT.of ((Same.refl _) _ _ t15), (fun h => nomatch h), (by show 3 ≤ sizeLine; decide), (fun h => nomatch h), fun _ p16 hp16 => ?_⟩
  have u16 := same_new hp16 (.tup ([(.int 7 : V)] ++ [x1, x2]))
  have d16 : DV K (upd H15 p16 (.tup ([(.int 7 : V)] ++ [x1, x2]))) (.ref p16) (.tuple [.int 7, frD e1, frD e2]) := .tup (SqT.of upd_same) (.cons (.int _) (.cons (h1.keep (u1.trans (u2.trans (u3.trans (u4.trans (u5.trans (u6.trans (u7.trans (u8.trans (u9.trans (u10.trans (u11.trans (u12.trans (u13.trans (u14.trans (u15.trans (u16))))))))))))))))) (.cons (h2.keep (u1.trans (u2.trans (u3.trans (u4.trans (u5.trans (u6.trans (u7.trans (u8.trans (u9.trans (u10.trans (u11.trans (u12.trans (u13.trans (u14.trans (u15.trans (u16))))))))))))))))) .nil)))
  have t16 : (upd H15 p16 (.tup ([(.int 7 : V)] ++ [x1, x2]))) p16 = some (.tup ([(.int 7 : V)] ++ [x1, x2])) := upd_same
  generalize upd H15 p16 (.tup ([(.int 7 : V)] ++ [x1, x2])) = H16 at u16 d16 t16 ⊢
  refine fun p17 hp17 => ⟨_, rfl, _, rfl, _, rfl, a, _, _, _, rfl, rfl, (ha.keep (u1.trans (u2.trans (u3.trans (u4.trans (u5.trans (u6.trans (u7.trans (u8.trans (u9.trans (u10.trans (u11.trans (u12.trans (u13.trans (u14.trans (u15.trans (u16))))))))))))))))).keep (same_new hp17 _), atI1, upd_same, ?_⟩
  rw [upd_upd]
  have u17 := same_new hp17 (.dK [(.inr "stop", x1)])
  have d17 : DV K (upd H16 p17 (.dK [(.inr "stop", x1)])) (.ref p17) (.dict []) := .dct upd_same
  generalize upd H16 p17 (.dK [(.inr "stop", x1)]) = H17 at u17 d17 ⊢
  refine ⟨(by show 1 ≤ sizeLine; decide), fun p18 hp18 => ?_⟩
  have u18 := same_new hp18 (.tup [.str "times"])
  have d18 : DV K (upd H17 p18 (.tup [.str "times"])) (.ref p18) (.tuple [.str "times"]) := .tup (SqT.of upd_same) (.cons (.str _) .nil)
  have t18 : (upd H17 p18 (.tup [.str "times"])) p18 = some (.tup [.str "times"]) := upd_same
  generalize upd H17 p18 (.tup [.str "times"]) = H18 at u18 d18 t18 ⊢
  refine ⟨_, rfl, _, rfl, a, _, rfl, ha.keep (u1.trans (u2.trans (u3.trans (u4.trans (u5.trans (u6.trans (u7.trans (u8.trans (u9.trans (u10.trans (u11.trans (u12.trans (u13.trans (u14.trans (u15.trans (u16.trans (u17.trans (u18)))))))))))))))))), (fun e => by rw [sIx1] at e; simp only [List.length_cons, List.length_nil] at e; omega), fun p19 hp19 => ?_⟩
  rw [show cutV [(V.str "stop"), x1, x2] (some 1) none = [x1, x2] from cut1 _]
  have u19 := same_new hp19 (.tup [x1, x2])
  have d19 : DV K (upd H18 p19 (.tup [x1, x2])) (.ref p19) (.tuple [frD e1, frD e2]) := .tup (SqT.of upd_same) (.cons (h1.keep (u1.trans (u2.trans (u3.trans (u4.trans (u5.trans (u6.trans (u7.trans (u8.trans (u9.trans (u10.trans (u11.trans (u12.trans (u13.trans (u14.trans (u15.trans (u16.trans (u17.trans (u18.trans (u19)))))))))))))))))))) (.cons (h2.keep (u1.trans (u2.trans (u3.trans (u4.trans (u5.trans (u6.trans (u7.trans (u8.trans (u9.trans (u10.trans (u11.trans (u12.trans (u13.trans (u14.trans (u15.trans (u16.trans (u17.trans (u18.trans (u19)))))))))))))))))))) .nil))
  have t19 : (upd H18 p19 (.tup [x1, x2])) p19 = some (.tup [x1, x2]) := upd_same
  generalize upd H18 p19 (.tup [x1, x2]) = H19 at u19 d19 t19 ⊢
  refine ⟨p18, p19, _, _, rfl, rfl, SqT.of ((u19) _ _ t18), SqT.of ((Same.refl _) _ _ t19), (fun h => nomatch h), (by show 3 ≤ sizeLine; decide), (fun h => nomatch h), fun _ p20 hp20 => ?_⟩
  have u20 := same_new hp20 (.tup ([(.str "times" : V)] ++ [x1, x2]))
  have d20 : DV K (upd H19 p20 (.tup ([(.str "times" : V)] ++ [x1, x2]))) (.ref p20) (.tuple [.str "times", frD e1, frD e2]) := .tup (SqT.of upd_same) (.cons (.str _) (.cons (h1.keep (u1.trans (u2.trans (u3.trans (u4.trans (u5.trans (u6.trans (u7.trans (u8.trans (u9.trans (u10.trans (u11.trans (u12.trans (u13.trans (u14.trans (u15.trans (u16.trans (u17.trans (u18.trans (u19.trans (u20))))))))))))))))))))) (.cons (h2.keep (u1.trans (u2.trans (u3.trans (u4.trans (u5.trans (u6.trans (u7.trans (u8.trans (u9.trans (u10.trans (u11.trans (u12.trans (u13.trans (u14.trans (u15.trans (u16.trans (u17.trans (u18.trans (u19.trans (u20))))))))))))))))))))) .nil)))
  have t20 : (upd H19 p20 (.tup ([(.str "times" : V)] ++ [x1, x2]))) p20 = some (.tup ([(.str "times" : V)] ++ [x1, x2])) := upd_same
  generalize upd H19 p20 (.tup ([(.str "times" : V)] ++ [x1, x2])) = H20 at u20 d20 t20 ⊢
  refine ⟨(by show 7 ≤ sizeLine; decide), fun p21 hp21 => ?_⟩
  have u21 := same_new hp21 (.lst [.non, .str "stop", .int 7, .ref p13, .ref p16, .ref p17, .ref p20])
  have d21 : DV K (upd H20 p21 (.lst [.non, .str "stop", .int 7, .ref p13, .ref p16, .ref p17, .ref p20])) (.ref p21) (.list [.none, .str "stop", .int 7, .tuple [], .tuple [.int 7, frD e1, frD e2], .dict [], .tuple [.str "times", frD e1, frD e2]]) := .lst (SqL.of upd_same) (.cons .non (.cons (.str _) (.cons (.int _) (.cons (d13.keep (u14.trans (u15.trans (u16.trans (u17.trans (u18.trans (u19.trans (u20.trans (u21))))))))) (.cons (d16.keep (u17.trans (u18.trans (u19.trans (u20.trans (u21)))))) (.cons (d17.keep (u18.trans (u19.trans (u20.trans (u21))))) (.cons (d20.keep (u21)) .nil)))))))
  have t21 : (upd H20 p21 (.lst [.non, .str "stop", .int 7, .ref p13, .ref p16, .ref p17, .ref p20])) p21 = some (.lst [.non, .str "stop", .int 7, .ref p13, .ref p16, .ref p17, .ref p20]) := upd_same
  have l21 : (upd H20 p21 (.lst [.non, .str "stop", .int 7, .ref p13, .ref p16, .ref p17, .ref p20])) p21 = some (.lst [.non, .str "stop", .int 7, .ref p13, .ref p16, .ref p17, .ref p20]) := upd_same
  generalize upd H20 p21 (.lst [.non, .str "stop", .int 7, .ref p13, .ref p16, .ref p17, .ref p20]) = H21 at u21 d21 t21 l21 ⊢
  refine ⟨p12, p21, _, _, rfl, rfl, (u13.trans (u14.trans (u15.trans (u16.trans (u17.trans (u18.trans (u19.trans (u20.trans (u21))))))))) _ _ l12, (Same.refl _) _ _ l21, (by show 13 ≤ sizeLine; decide), fun p22 hp22 => ?_⟩
  have u22 := same_new hp22 (.lst ([(.ref p1 : V), .ref p2, .ref p4, .ref p7, .ref p10, .ref p11] ++ [(.non : V), .str "stop", .int 7, .ref p13, .ref p16, .ref p17, .ref p20]))
  have l22 : (upd H21 p22 (.lst ([(.ref p1 : V), .ref p2, .ref p4, .ref p7, .ref p10, .ref p11] ++ [(.non : V), .str "stop", .int 7, .ref p13, .ref p16, .ref p17, .ref p20]))) p22 = some (.lst ([(.ref p1 : V), .ref p2, .ref p4, .ref p7, .ref p10, .ref p11] ++ [(.non : V), .str "stop", .int 7, .ref p13, .ref p16, .ref p17, .ref p20])) := upd_same
  generalize upd H21 p22 (.lst ([(.ref p1 : V), .ref p2, .ref p4, .ref p7, .ref p10, .ref p11] ++ [(.non : V), .str "stop", .int 7, .ref p13, .ref p16, .ref p17, .ref p20])) = H22 at u22 l22 ⊢
  refine ⟨_, rfl, .inl ⟨rfl, _, SqL.of l22⟩, (by show 2 ≤ sizeLine; decide), fun p23 hp23 => ?_⟩
  have u23 := same_new hp23 (.lst [.str "stop", .str "gap"])
  have d23 : DV K (upd H22 p23 (.lst [.str "stop", .str "gap"])) (.ref p23) (.list [.str "stop", .str "gap"]) := .lst (SqL.of upd_same) (.cons (.str _) (.cons (.str _) .nil))
  have t23 : (upd H22 p23 (.lst [.str "stop", .str "gap"])) p23 = some (.lst [.str "stop", .str "gap"]) := upd_same
  have l23 : (upd H22 p23 (.lst [.str "stop", .str "gap"])) p23 = some (.lst [.str "stop", .str "gap"]) := upd_same
  generalize upd H22 p23 (.lst [.str "stop", .str "gap"]) = H23 at u23 d23 t23 l23 ⊢
  refine ⟨_, rfl, rfl, .inr ⟨_, rfl, ?_⟩⟩
  rw [hd, if_pos rfl]
  refine ⟨p23, _, _, _, rfl, rfl, SqL.of l23, atI1, (by show 1 ≤ sizeLine; decide), fun p24 hp24 => ?_⟩
  have u24 := same_new hp24 (.tup [.str "gap"])
  have d24 : DV K (upd H23 p24 (.tup [.str "gap"])) (.ref p24) (.tuple [.str "gap"]) := .tup (SqT.of upd_same) (.cons (.str _) .nil)
  have t24 : (upd H23 p24 (.tup [.str "gap"])) p24 = some (.tup [.str "gap"]) := upd_same
  generalize upd H23 p24 (.tup [.str "gap"]) = H24 at u24 d24 t24 ⊢
  refine ⟨_, rfl, _, rfl, a, _, rfl, ha.keep (u1.trans (u2.trans (u3.trans (u4.trans (u5.trans (u6.trans (u7.trans (u8.trans (u9.trans (u10.trans (u11.trans (u12.trans (u13.trans (u14.trans (u15.trans (u16.trans (u17.trans (u18.trans (u19.trans (u20.trans (u21.trans (u22.trans (u23.trans (u24)))))))))))))))))))))))), (fun e => by rw [sIx1] at e; simp only [List.length_cons, List.length_nil] at e; omega), fun p25 hp25 => ?_⟩
  rw [show cutV [(V.str "stop"), x1, x2] (some 1) none = [x1, x2] from cut1 _]
  have u25 := same_new hp25 (.tup [x1, x2])
  have d25 : DV K (upd H24 p25 (.tup [x1, x2])) (.ref p25) (.tuple [frD e1, frD e2]) := .tup (SqT.of upd_same) (.cons (h1.keep (u1.trans (u2.trans (u3.trans (u4.trans (u5.trans (u6.trans (u7.trans (u8.trans (u9.trans (u10.trans (u11.trans (u12.trans (u13.trans (u14.trans (u15.trans (u16.trans (u17.trans (u18.trans (u19.trans (u20.trans (u21.trans (u22.trans (u23.trans (u24.trans (u25)))))))))))))))))))))))))) (.cons (h2.keep (u1.trans (u2.trans (u3.trans (u4.trans (u5.trans (u6.trans (u7.trans (u8.trans (u9.trans (u10.trans (u11.trans (u12.trans (u13.trans (u14.trans (u15.trans (u16.trans (u17.trans (u18.trans (u19.trans (u20.trans (u21.trans (u22.trans (u23.trans (u24.trans (u25)))))))))))))))))))))))))) .nil))
  have t25 : (upd H24 p25 (.tup [x1, x2])) p25 = some (.tup [x1, x2]) := upd_same
  generalize upd H24 p25 (.tup [x1, x2]) = H25 at u25 d25 t25 ⊢
  refine ⟨p24, p25, _, _, rfl, rfl, SqT.of ((u25) _ _ t24), SqT.of ((Same.refl _) _ _ t25), (fun h => nomatch h), (by show 3 ≤ sizeLine; decide), (fun h => nomatch h), fun _ p26 hp26 => ?_⟩
  have u26 := same_new hp26 (.tup ([(.str "gap" : V)] ++ [x1, x2]))
  have d26 : DV K (upd H25 p26 (.tup ([(.str "gap" : V)] ++ [x1, x2]))) (.ref p26) (.tuple [.str "gap", frD e1, frD e2]) := .tup (SqT.of upd_same) (.cons (.str _) (.cons (h1.keep (u1.trans (u2.trans (u3.trans (u4.trans (u5.trans (u6.trans (u7.trans (u8.trans (u9.trans (u10.trans (u11.trans (u12.trans (u13.trans (u14.trans (u15.trans (u16.trans (u17.trans (u18.trans (u19.trans (u20.trans (u21.trans (u22.trans (u23.trans (u24.trans (u25.trans (u26))))))))))))))))))))))))))) (.cons (h2.keep (u1.trans (u2.trans (u3.trans (u4.trans (u5.trans (u6.trans (u7.trans (u8.trans (u9.trans (u10.trans (u11.trans (u12.trans (u13.trans (u14.trans (u15.trans (u16.trans (u17.trans (u18.trans (u19.trans (u20.trans (u21.trans (u22.trans (u23.trans (u24.trans (u25.trans (u26))))))))))))))))))))))))))) .nil)))
  have t26 : (upd H25 p26 (.tup ([(.str "gap" : V)] ++ [x1, x2]))) p26 = some (.tup ([(.str "gap" : V)] ++ [x1, x2])) := upd_same
  generalize upd H25 p26 (.tup ([(.str "gap" : V)] ++ [x1, x2])) = H26 at u26 d26 t26 ⊢
  refine ⟨p22, _, _, rfl, rfl, (u23.trans (u24.trans (u25.trans (u26)))) _ _ l22, small1000 (by simp), ?_⟩
  have ub : Same H21 (upd H26 p22 (.lst (([(.ref p1 : V), .ref p2, .ref p4, .ref p7, .ref p10, .ref p11] ++ [(.non : V), .str "stop", .int 7, .ref p13, .ref p16, .ref p17, .ref p20]) ++ [.ref p26]))) := same_put (u22.trans (u23.trans (u24.trans (u25.trans (u26))))) hp22
  have l27 : (upd H26 p22 (.lst (([(.ref p1 : V), .ref p2, .ref p4, .ref p7, .ref p10, .ref p11] ++ [(.non : V), .str "stop", .int 7, .ref p13, .ref p16, .ref p17, .ref p20]) ++ [.ref p26]))) p22 = some (.lst (([(.ref p1 : V), .ref p2, .ref p4, .ref p7, .ref p10, .ref p11] ++ [(.non : V), .str "stop", .int 7, .ref p13, .ref p16, .ref p17, .ref p20]) ++ [.ref p26])) := upd_same
  have ne : p26 ≠ p22 := fun e => by have := (u23.trans (u24.trans (u25))) _ _ l22; rw [← e, hp26] at this; cases this
  have t27 : (upd H26 p22 (.lst (([(.ref p1 : V), .ref p2, .ref p4, .ref p7, .ref p10, .ref p11] ++ [(.non : V), .str "stop", .int 7, .ref p13, .ref p16, .ref p17, .ref p20]) ++ [.ref p26]))) p26 = _ := (upd_ne ne).trans t26
  generalize upd H26 p22 (.lst (([(.ref p1 : V), .ref p2, .ref p4, .ref p7, .ref p10, .ref p11] ++ [(.non : V), .str "stop", .int 7, .ref p13, .ref p16, .ref p17, .ref p20]) ++ [.ref p26])) = H27 at ub l27 t27 ⊢
  have d27 : DV K H27 (.ref p26) (.tuple [.str "gap", frD e1, frD e2]) := .tup (SqT.of t27) (.cons (.str _) (.cons (h1.keep (u1.trans (u2.trans (u3.trans (u4.trans (u5.trans (u6.trans (u7.trans (u8.trans (u9.trans (u10.trans (u11.trans (u12.trans (u13.trans (u14.trans (u15.trans (u16.trans (u17.trans (u18.trans (u19.trans (u20.trans (u21.trans (ub))))))))))))))))))))))) (.cons (h2.keep (u1.trans (u2.trans (u3.trans (u4.trans (u5.trans (u6.trans (u7.trans (u8.trans (u9.trans (u10.trans (u11.trans (u12.trans (u13.trans (u14.trans (u15.trans (u16.trans (u17.trans (u18.trans (u19.trans (u20.trans (u21.trans (ub))))))))))))))))))))))) .nil)))
  refine ⟨_, rfl, rfl, _, rfl, iteT' hd ?_⟩
  refine ⟨_, rfl, a, _, _, _, rfl, rfl, ha.keep (u1.trans (u2.trans (u3.trans (u4.trans (u5.trans (u6.trans (u7.trans (u8.trans (u9.trans (u10.trans (u11.trans (u12.trans (u13.trans (u14.trans (u15.trans (u16.trans (u17.trans (u18.trans (u19.trans (u20.trans (u21.trans (ub)))))))))))))))))))))), atI1, _, rfl, a, _, _, _, rfl, rfl, ha.keep (u1.trans (u2.trans (u3.trans (u4.trans (u5.trans (u6.trans (u7.trans (u8.trans (u9.trans (u10.trans (u11.trans (u12.trans (u13.trans (u14.trans (u15.trans (u16.trans (u17.trans (u18.trans (u19.trans (u20.trans (u21.trans (ub)))))))))))))))))))))), atI2, ?_⟩
  refine ne_frD (h1.keep (u1.trans (u2.trans (u3.trans (u4.trans (u5.trans (u6.trans (u7.trans (u8.trans (u9.trans (u10.trans (u11.trans (u12.trans (u13.trans (u14.trans (u15.trans (u16.trans (u17.trans (u18.trans (u19.trans (u20.trans (u21.trans (ub))))))))))))))))))))))) (h2.keep (u1.trans (u2.trans (u3.trans (u4.trans (u5.trans (u6.trans (u7.trans (u8.trans (u9.trans (u10.trans (u11.trans (u12.trans (u13.trans (u14.trans (u15.trans (u16.trans (u17.trans (u18.trans (u19.trans (u20.trans (u21.trans (ub))))))))))))))))))))))) ⟨_, rfl, ?_⟩
  by_cases ne12 : e1 = e2
  · refine iteF' (by simp [ne12]) ?_
    have all : DVs K H27 [.ref p1, .ref p2, .ref p4, .ref p7, .ref p10, .ref p11, .non, .str "stop", .int 7, .ref p13, .ref p16, .ref p17, .ref p20, .ref p26] [.list [.str "stop", frD e1, frD e2], .tuple [.str "stop"], .tuple [.str "stop", frD e1, frD e2, frD e1], .tuple [.str (Txt.upper "stop"), frD e1, frD e2], .tuple [.str "lens", frD e1, frD e2], .tuple [frD e1, frD e2], .none, .str "stop", .int 7, .tuple [], .tuple [.int 7, frD e1, frD e2], .dict [], .tuple [.str "times", frD e1, frD e2], .tuple [.str "gap", frD e1, frD e2]] := (.cons (d1.keep (u2.trans (u3.trans (u4.trans (u5.trans (u6.trans (u7.trans (u8.trans (u9.trans (u10.trans (u11.trans (u12.trans (u13.trans (u14.trans (u15.trans (u16.trans (u17.trans (u18.trans (u19.trans (u20.trans (u21.trans (ub)))))))))))))))))))))) (.cons (d2.keep (u3.trans (u4.trans (u5.trans (u6.trans (u7.trans (u8.trans (u9.trans (u10.trans (u11.trans (u12.trans (u13.trans (u14.trans (u15.trans (u16.trans (u17.trans (u18.trans (u19.trans (u20.trans (u21.trans (ub))))))))))))))))))))) (.cons (d4.keep (u5.trans (u6.trans (u7.trans (u8.trans (u9.trans (u10.trans (u11.trans (u12.trans (u13.trans (u14.trans (u15.trans (u16.trans (u17.trans (u18.trans (u19.trans (u20.trans (u21.trans (ub))))))))))))))))))) (.cons (d7.keep (u8.trans (u9.trans (u10.trans (u11.trans (u12.trans (u13.trans (u14.trans (u15.trans (u16.trans (u17.trans (u18.trans (u19.trans (u20.trans (u21.trans (ub)))))))))))))))) (.cons (d10.keep (u11.trans (u12.trans (u13.trans (u14.trans (u15.trans (u16.trans (u17.trans (u18.trans (u19.trans (u20.trans (u21.trans (ub))))))))))))) (.cons (d11.keep (u12.trans (u13.trans (u14.trans (u15.trans (u16.trans (u17.trans (u18.trans (u19.trans (u20.trans (u21.trans (ub)))))))))))) (.cons .non (.cons (.str _) (.cons (.int _) (.cons (d13.keep (u14.trans (u15.trans (u16.trans (u17.trans (u18.trans (u19.trans (u20.trans (u21.trans (ub)))))))))) (.cons (d16.keep (u17.trans (u18.trans (u19.trans (u20.trans (u21.trans (ub))))))) (.cons (d17.keep (u18.trans (u19.trans (u20.trans (u21.trans (ub)))))) (.cons (d20.keep (u21.trans (ub))) (.cons d27 .nil))))))))))))))
    have odd : ∀ d ∈ [(.list [.str "stop", frD e1, frD e2] : PyData), .tuple [.str "stop"], .tuple [.str "stop", frD e1, frD e2, frD e1], .tuple [.str (Txt.upper "stop"), frD e1, frD e2], .tuple [.str "lens", frD e1, frD e2], .tuple [frD e1, frD e2], .none, .str "stop", .int 7, .tuple [], .tuple [.int 7, frD e1, frD e2], .dict [], .tuple [.str "times", frD e1, frD e2], .tuple [.str "gap", frD e1, frD e2]], OddB d := fun d hd => by
      simp only [List.mem_cons, List.not_mem_nil, or_false] at hd
      rcases hd with rfl | rfl | rfl | rfl | rfl | rfl | rfl | rfl | rfl | rfl | rfl | rfl | rfl | rfl
      · exact odd_no (fun _ h => nomatch h)
      · exact odd_one _
      · exact odd_stop3 (a := e1) (b := e2) (c := e1) B3
      · exact odd_word (es := [e1, e2]) up1 up2 up3 B (by simp)
      · exact odd_word (es := [e1, e2]) (by decide) (by decide) (by decide) B (by simp)
      · exact odd_frs (e := e1) (es := [e2]) B (by simp)
      · exact odd_no (fun _ h => nomatch h)
      · exact odd_no (fun _ h => nomatch h)
      · exact odd_no (fun _ h => nomatch h)
      · exact odd_nil
      · exact odd_int (es := [e1, e2]) B (by simp)
      · exact odd_no (fun _ h => nomatch h)
      · exact odd_word (es := [e1, e2]) (by decide) (by decide) (by decide) B (by simp)
      · exact odd_long (e1 := e1) (e2 := e2) (es := []) (by decide) B (by decide)
    exact kR a p22 zc "stop" x1 [x2] _ _ e1 [e2] _ _ _ _ _ (ha.keep (u1.trans (u2.trans (u3.trans (u4.trans (u5.trans (u6.trans (u7.trans (u8.trans (u9.trans (u10.trans (u11.trans (u12.trans (u13.trans (u14.trans (u15.trans (u16.trans (u17.trans (u18.trans (u19.trans (u20.trans (u21.trans (ub))))))))))))))))))))))) (h1.keep (u1.trans (u2.trans (u3.trans (u4.trans (u5.trans (u6.trans (u7.trans (u8.trans (u9.trans (u10.trans (u11.trans (u12.trans (u13.trans (u14.trans (u15.trans (u16.trans (u17.trans (u18.trans (u19.trans (u20.trans (u21.trans (ub))))))))))))))))))))))) (.cons (h2.keep (u1.trans (u2.trans (u3.trans (u4.trans (u5.trans (u6.trans (u7.trans (u8.trans (u9.trans (u10.trans (u11.trans (u12.trans (u13.trans (u14.trans (u15.trans (u16.trans (u17.trans (u18.trans (u19.trans (u20.trans (u21.trans (ub))))))))))))))))))))))) .nil) b1 (fun e he => by rw [List.mem_singleton.mp he]; exact b2) (by simp) l27 all odd (by simp) fun v d H' s' hv o => q v d H' ((u1.trans (u2.trans (u3.trans (u4.trans (u5.trans (u6.trans (u7.trans (u8.trans (u9.trans (u10.trans (u11.trans (u12.trans (u13.trans (u14.trans (u15.trans (u16.trans (u17.trans (u18.trans (u19.trans (u20.trans (u21.trans (ub)))))))))))))))))))))).trans s') hv o
  · refine iteT' (by simp [ne12]) ?_
    refine ⟨_, rfl, _, rfl, _, rfl, a, _, _, _, rfl, rfl, ha.keep (u1.trans (u2.trans (u3.trans (u4.trans (u5.trans (u6.trans (u7.trans (u8.trans (u9.trans (u10.trans (u11.trans (u12.trans (u13.trans (u14.trans (u15.trans (u16.trans (u17.trans (u18.trans (u19.trans (u20.trans (u21.trans (ub)))))))))))))))))))))), atI2, _, rfl, a, _, _, _, rfl, rfl, ha.keep (u1.trans (u2.trans (u3.trans (u4.trans (u5.trans (u6.trans (u7.trans (u8.trans (u9.trans (u10.trans (u11.trans (u12.trans (u13.trans (u14.trans (u15.trans (u16.trans (u17.trans (u18.trans (u19.trans (u20.trans (u21.trans (ub)))))))))))))))))))))), atI1, (by show 3 ≤ sizeLine; decide), fun p28 hp28 => ?_⟩
    have u28 := same_new hp28 (.tup [.str "stop", x2, x1])
    have d28 : DV K (upd H27 p28 (.tup [.str "stop", x2, x1])) (.ref p28) (.tuple [.str "stop", frD e2, frD e1]) := .tup (SqT.of upd_same) (.cons (.str _) (.cons (h2.keep (u1.trans (u2.trans (u3.trans (u4.trans (u5.trans (u6.trans (u7.trans (u8.trans (u9.trans (u10.trans (u11.trans (u12.trans (u13.trans (u14.trans (u15.trans (u16.trans (u17.trans (u18.trans (u19.trans (u20.trans (u21.trans (ub.trans (u28)))))))))))))))))))))))) (.cons (h1.keep (u1.trans (u2.trans (u3.trans (u4.trans (u5.trans (u6.trans (u7.trans (u8.trans (u9.trans (u10.trans (u11.trans (u12.trans (u13.trans (u14.trans (u15.trans (u16.trans (u17.trans (u18.trans (u19.trans (u20.trans (u21.trans (ub.trans (u28)))))))))))))))))))))))) .nil)))
    have t28 : (upd H27 p28 (.tup [.str "stop", x2, x1])) p28 = some (.tup [.str "stop", x2, x1]) := upd_same
    generalize upd H27 p28 (.tup [.str "stop", x2, x1]) = H28 at u28 d28 t28 ⊢
    refine ⟨(by show 1 ≤ sizeLine; decide), fun p29 hp29 => ?_⟩
    have u29 := same_new hp29 (.lst [.ref p28])
    have d29 : DV K (upd H28 p29 (.lst [.ref p28])) (.ref p29) (.list [.tuple [.str "stop", frD e2, frD e1]]) := .lst (SqL.of upd_same) (.cons (d28.keep (u29)) .nil)
    have t29 : (upd H28 p29 (.lst [.ref p28])) p29 = some (.lst [.ref p28]) := upd_same
    have l29 : (upd H28 p29 (.lst [.ref p28])) p29 = some (.lst [.ref p28]) := upd_same
    generalize upd H28 p29 (.lst [.ref p28]) = H29 at u29 d29 t29 l29 ⊢
    refine ⟨p29, 4, [.ref p28], rfl, rfl, l29, (by decide), (by decide), (by show 1 * 4 ≤ sizeLine; decide), fun p30 hp30 => ?_⟩
    rw [rep_flat1]
    have u30 := same_new hp30 (.lst (List.replicate (Int.toNat 4) (.ref p28 : V)))
    have l30 : (upd H29 p30 (.lst (List.replicate (Int.toNat 4) (.ref p28 : V)))) p30 = some (.lst (List.replicate (Int.toNat 4) (.ref p28 : V))) := upd_same
    generalize upd H29 p30 (.lst (List.replicate (Int.toNat 4) (.ref p28 : V))) = H30 at u30 l30 ⊢
    refine ⟨p22, p30, _, _, rfl, rfl, (u28.trans (u29.trans (u30))) _ _ l27, l30, Nat.le_of_lt (small1000 (by simp)), fun p31 hp31 => ?_⟩
    have u31 := same_new hp31 (.lst ((([(.ref p1 : V), .ref p2, .ref p4, .ref p7, .ref p10, .ref p11] ++ [(.non : V), .str "stop", .int 7, .ref p13, .ref p16, .ref p17, .ref p20]) ++ [.ref p26]) ++ (List.replicate (Int.toNat 4) (.ref p28 : V))))
    have l31 : (upd H30 p31 (.lst ((([(.ref p1 : V), .ref p2, .ref p4, .ref p7, .ref p10, .ref p11] ++ [(.non : V), .str "stop", .int 7, .ref p13, .ref p16, .ref p17, .ref p20]) ++ [.ref p26]) ++ (List.replicate (Int.toNat 4) (.ref p28 : V))))) p31 = some (.lst ((([(.ref p1 : V), .ref p2, .ref p4, .ref p7, .ref p10, .ref p11] ++ [(.non : V), .str "stop", .int 7, .ref p13, .ref p16, .ref p17, .ref p20]) ++ [.ref p26]) ++ (List.replicate (Int.toNat 4) (.ref p28 : V)))) := upd_same
    generalize upd H30 p31 (.lst ((([(.ref p1 : V), .ref p2, .ref p4, .ref p7, .ref p10, .ref p11] ++ [(.non : V), .str "stop", .int 7, .ref p13, .ref p16, .ref p17, .ref p20]) ++ [.ref p26]) ++ (List.replicate (Int.toNat 4) (.ref p28 : V)))) = H31 at u31 l31 ⊢
    have all : DVs K H31 [.ref p1, .ref p2, .ref p4, .ref p7, .ref p10, .ref p11, .non, .str "stop", .int 7, .ref p13, .ref p16, .ref p17, .ref p20, .ref p26, .ref p28, .ref p28, .ref p28, .ref p28] [.list [.str "stop", frD e1, frD e2], .tuple [.str "stop"], .tuple [.str "stop", frD e1, frD e2, frD e1], .tuple [.str (Txt.upper "stop"), frD e1, frD e2], .tuple [.str "lens", frD e1, frD e2], .tuple [frD e1, frD e2], .none, .str "stop", .int 7, .tuple [], .tuple [.int 7, frD e1, frD e2], .dict [], .tuple [.str "times", frD e1, frD e2], .tuple [.str "gap", frD e1, frD e2], .tuple [.str "stop", frD e2, frD e1], .tuple [.str "stop", frD e2, frD e1], .tuple [.str "stop", frD e2, frD e1], .tuple [.str "stop", frD e2, frD e1]] := (.cons (d1.keep (u2.trans (u3.trans (u4.trans (u5.trans (u6.trans (u7.trans (u8.trans (u9.trans (u10.trans (u11.trans (u12.trans (u13.trans (u14.trans (u15.trans (u16.trans (u17.trans (u18.trans (u19.trans (u20.trans (u21.trans (ub.trans (u28.trans (u29.trans (u30.trans (u31)))))))))))))))))))))))))) (.cons (d2.keep (u3.trans (u4.trans (u5.trans (u6.trans (u7.trans (u8.trans (u9.trans (u10.trans (u11.trans (u12.trans (u13.trans (u14.trans (u15.trans (u16.trans (u17.trans (u18.trans (u19.trans (u20.trans (u21.trans (ub.trans (u28.trans (u29.trans (u30.trans (u31))))))))))))))))))))))))) (.cons (d4.keep (u5.trans (u6.trans (u7.trans (u8.trans (u9.trans (u10.trans (u11.trans (u12.trans (u13.trans (u14.trans (u15.trans (u16.trans (u17.trans (u18.trans (u19.trans (u20.trans (u21.trans (ub.trans (u28.trans (u29.trans (u30.trans (u31))))))))))))))))))))))) (.cons (d7.keep (u8.trans (u9.trans (u10.trans (u11.trans (u12.trans (u13.trans (u14.trans (u15.trans (u16.trans (u17.trans (u18.trans (u19.trans (u20.trans (u21.trans (ub.trans (u28.trans (u29.trans (u30.trans (u31)))))))))))))))))))) (.cons (d10.keep (u11.trans (u12.trans (u13.trans (u14.trans (u15.trans (u16.trans (u17.trans (u18.trans (u19.trans (u20.trans (u21.trans (ub.trans (u28.trans (u29.trans (u30.trans (u31))))))))))))))))) (.cons (d11.keep (u12.trans (u13.trans (u14.trans (u15.trans (u16.trans (u17.trans (u18.trans (u19.trans (u20.trans (u21.trans (ub.trans (u28.trans (u29.trans (u30.trans (u31)))))))))))))))) (.cons .non (.cons (.str _) (.cons (.int _) (.cons (d13.keep (u14.trans (u15.trans (u16.trans (u17.trans (u18.trans (u19.trans (u20.trans (u21.trans (ub.trans (u28.trans (u29.trans (u30.trans (u31)))))))))))))) (.cons (d16.keep (u17.trans (u18.trans (u19.trans (u20.trans (u21.trans (ub.trans (u28.trans (u29.trans (u30.trans (u31))))))))))) (.cons (d17.keep (u18.trans (u19.trans (u20.trans (u21.trans (ub.trans (u28.trans (u29.trans (u30.trans (u31)))))))))) (.cons (d20.keep (u21.trans (ub.trans (u28.trans (u29.trans (u30.trans (u31))))))) (.cons (d27.keep (u28.trans (u29.trans (u30.trans (u31))))) (.cons (d28.keep (u29.trans (u30.trans (u31)))) (.cons (d28.keep (u29.trans (u30.trans (u31)))) (.cons (d28.keep (u29.trans (u30.trans (u31)))) (.cons (d28.keep (u29.trans (u30.trans (u31)))) .nil))))))))))))))))))
    have odd : ∀ d ∈ [(.list [.str "stop", frD e1, frD e2] : PyData), .tuple [.str "stop"], .tuple [.str "stop", frD e1, frD e2, frD e1], .tuple [.str (Txt.upper "stop"), frD e1, frD e2], .tuple [.str "lens", frD e1, frD e2], .tuple [frD e1, frD e2], .none, .str "stop", .int 7, .tuple [], .tuple [.int 7, frD e1, frD e2], .dict [], .tuple [.str "times", frD e1, frD e2], .tuple [.str "gap", frD e1, frD e2], .tuple [.str "stop", frD e2, frD e1], .tuple [.str "stop", frD e2, frD e1], .tuple [.str "stop", frD e2, frD e1], .tuple [.str "stop", frD e2, frD e1]], OddB d := fun d hd => by
      simp only [List.mem_cons, List.not_mem_nil, or_false] at hd
      rcases hd with rfl | rfl | rfl | rfl | rfl | rfl | rfl | rfl | rfl | rfl | rfl | rfl | rfl | rfl | rfl | rfl | rfl | rfl
      · exact odd_no (fun _ h => nomatch h)
      · exact odd_one _
      · exact odd_stop3 (a := e1) (b := e2) (c := e1) B3
      · exact odd_word (es := [e1, e2]) up1 up2 up3 B (by simp)
      · exact odd_word (es := [e1, e2]) (by decide) (by decide) (by decide) B (by simp)
      · exact odd_frs (e := e1) (es := [e2]) B (by simp)
      · exact odd_no (fun _ h => nomatch h)
      · exact odd_no (fun _ h => nomatch h)
      · exact odd_no (fun _ h => nomatch h)
      · exact odd_nil
      · exact odd_int (es := [e1, e2]) B (by simp)
      · exact odd_no (fun _ h => nomatch h)
      · exact odd_word (es := [e1, e2]) (by decide) (by decide) (by decide) B (by simp)
      · exact odd_long (e1 := e1) (e2 := e2) (es := []) (by decide) B (by decide)
      · exact odd_turn b1 b2 ok ne12
      · exact odd_turn b1 b2 ok ne12
      · exact odd_turn b1 b2 ok ne12
      · exact odd_turn b1 b2 ok ne12
    exact kR a p31 zc "stop" x1 [x2] _ _ e1 [e2] _ _ _ _ _ (ha.keep (u1.trans (u2.trans (u3.trans (u4.trans (u5.trans (u6.trans (u7.trans (u8.trans (u9.trans (u10.trans (u11.trans (u12.trans (u13.trans (u14.trans (u15.trans (u16.trans (u17.trans (u18.trans (u19.trans (u20.trans (u21.trans (ub.trans (u28.trans (u29.trans (u30.trans (u31))))))))))))))))))))))))))) (h1.keep (u1.trans (u2.trans (u3.trans (u4.trans (u5.trans (u6.trans (u7.trans (u8.trans (u9.trans (u10.trans (u11.trans (u12.trans (u13.trans (u14.trans (u15.trans (u16.trans (u17.trans (u18.trans (u19.trans (u20.trans (u21.trans (ub.trans (u28.trans (u29.trans (u30.trans (u31))))))))))))))))))))))))))) (.cons (h2.keep (u1.trans (u2.trans (u3.trans (u4.trans (u5.trans (u6.trans (u7.trans (u8.trans (u9.trans (u10.trans (u11.trans (u12.trans (u13.trans (u14.trans (u15.trans (u16.trans (u17.trans (u18.trans (u19.trans (u20.trans (u21.trans (ub.trans (u28.trans (u29.trans (u30.trans (u31))))))))))))))))))))))))))) .nil) b1 (fun e he => by rw [List.mem_singleton.mp he]; exact b2) (by simp) l31 all odd (by simp) fun v d H' s' hv o => q v d H' ((u1.trans (u2.trans (u3.trans (u4.trans (u5.trans (u6.trans (u7.trans (u8.trans (u9.trans (u10.trans (u11.trans (u12.trans (u13.trans (u14.trans (u15.trans (u16.trans (u17.trans (u18.trans (u19.trans (u20.trans (u21.trans (ub.trans (u28.trans (u29.trans (u30.trans (u31)))))))))))))))))))))))))).trans s') hv o
end
end K07
namespace K07
open PySem L2 Lib Fr Op
seal PE PT PW PA PS PSs PG PGs PI PO PIfs
def spWrong07 (K : PySem.W.Frag) : Sp := fun vs H Q _ => ∃ (v : V) (p : Pc) (zc : Int), vs = [v, .int zc] ∧ DV K H v (pcD p) ∧ p.ok ∧ p.bd 50 ∧ ∀ v' d H', Same H H' → DV K H' v' d → OddB d → Q v' H'
def pcW : Pc → Str
  | .gap _ => "gap"
  | .glass _ => "glass"
  | .stop _ _ => "stop"
def spIsOf (K : PySem.W.Frag) (CG CL CS : Addr) : Sp := fun vs H Q _ => ∃ (v : V) (p : Pc), vs = [v, .str (pcW p)] ∧ ObAt K CG CL CS H v p ∧ ∀ H', Same H H' → Q (.bl true) H'
def spTruth07 : Sp := fun vs H Q _ => ∃ b : Bool, vs = [.bl b, .bl b] ∧ Q (.bl true) H
theorem pc_word {K : PySem.W.Frag} {H : Hp} {v : V} : ∀ {p : Pc}, DV K H v (pcD p) → ∃ (a : Addr) (x : V) (r : List V), v = .ref a ∧ SqT K H a (.str (pcW p) :: x :: r)
  | .gap d, h => by
    obtain ⟨a, x, y, rfl, ha, hx, hy⟩ := DV.t2 h
    obtain rfl := hx.str_of
    exact ⟨a, y, [], rfl, ha⟩
  | .glass d, h => by
    obtain ⟨a, x, y, rfl, ha, hx, hy⟩ := DV.t2 h
    obtain rfl := hx.str_of
    exact ⟨a, y, [], rfl, ha⟩
  | .stop lo hi, h => by
    obtain ⟨a, x, y, w, rfl, ha, hx, hy, hw⟩ := DV.t3 h
    obtain rfl := hx.str_of
    exact ⟨a, y, [w], rfl, ha⟩
theorem isTup_pc (p : Pc) : bsub (tyD (pcD p)) "tuple" = some true := by
  have : bsub "tuple" "tuple" = some true := by decide +kernel
  cases p <;> exact this
section
variable {P : Program} {w : World} {K : PySem.W.Frag} {mg : Str → Option Value} {base : Heap} {ad : Adr} {c : Bool}
theorem c__law_wrong (T : Txt K mg ad) : CalB P w K mg base true 2 "_law_wrong" ["_law_piece_here", "_law_cell"] (spWrong07 K) := by
  refine T.t__law_wrong.calN sc__law_wrong (fun _ _ _ _ _ _ => by2 fun _ _ => rfl) (fun vs H Q E h => ?_) (fun f cdv A outer s H0 vs Q E hr h => ?_)
  · obtain ⟨_, _, _, rfl, _⟩ := h; rfl
  obtain ⟨v, p, zc, rfl, hx, ok, bd, q⟩ := h
  obtain ⟨tR, hR, kR⟩ := w_rest (P := P) (w := w) (base := base) (f := f) (cdv := cdv) (A := A) (outer := outer) (s := s) (H := H0) (E := E) T hr
  cases p with
  | gap d =>
    obtain ⟨tP, hP, kP⟩ := w_plain T hr hR kR
    obtain ⟨a, x, y, rfl, ha, hx, hy⟩ := DV.t2 hx
    obtain rfl := hx.str_of
    exact ⟨_, hP, kP a zc "gap" y d _ _ _ _ _ H0 _ (.inl rfl) ha hy bd q⟩
  | glass d =>
    obtain ⟨tP, hP, kP⟩ := w_plain T hr hR kR
    obtain ⟨a, x, y, rfl, ha, hx, hy⟩ := DV.t2 hx
    obtain rfl := hx.str_of
    exact ⟨_, hP, kP a zc "glass" y d _ _ _ _ _ H0 _ (.inr rfl) ha hy bd q⟩
  | stop lo hi =>
    obtain ⟨tP, hP, kP⟩ := w_stop T hr hR kR
    obtain ⟨a, x, y, z, rfl, ha, hx, hy, hz⟩ := DV.t3 hx
    obtain rfl := hx.str_of
    exact ⟨_, hP, kP a zc y z lo hi _ _ _ _ _ H0 _ ha hy hz bd.1 bd.2 ok q⟩
theorem c__law_is_of (T : Txt K mg ad) : CalB P w K mg base true 1 "_law_is_of" ["_law_found", "_law_word"] (spIsOf K ad.Gap ad.Glass ad.Stop) := by
  refine T.t__law_is_of.calN sc__law_is_of (fun _ _ _ _ _ _ => by2 fun _ _ => rfl) (fun vs H Q E h => ?_) (fun f cdv A outer s H vs Q E hr h => ?_)
  · obtain ⟨_, _, rfl, _⟩ := h; rfl
  obtain ⟨v, p, rfl, ho, q⟩ := h
  refine ⟨_, (pss_cons (ps_set (i := 2) sc__law_is_of.nd rfl (Or.inl rfl) (pe_lst (pa_call (pe_callB call_isiT rfl T.isinstance bt_isinstance (pa_name (pv 0) (pa_name (pe_glob (v := .ref ad.Gap) rfl T.ex.m_Gap rfl) pa_nil))) (pa_call (pe_callB call_isiT rfl T.isinstance bt_isinstance (pa_name (pv 0) (pa_name (pe_glob (v := .ref ad.Glass) rfl T.ex.m_Glass rfl) pa_nil))) (pa_call (pe_callB call_isiT rfl T.isinstance bt_isinstance (pa_name (pv 0) (pa_name (pe_glob (v := .ref ad.Stop) rfl T.ex.m_Stop rfl) pa_nil))) pa_nil))))) (pss_one (ps_ret (pe_cmpR (op_eqD hr.units) (pv 2) (pe_lst (pa_cmp (pe_cmpR op_eq (pv 1) pe_str (nomark _)) (pa_cmp (pe_cmpR op_eq (pv 1) pe_str (nomark _)) (pa_cmp (pe_cmpR op_eq (pv 1) pe_str (nomark _)) pa_nil)))) (nomark _))))), ?_⟩
  cases ho with
  | @gap a dx x d ha hx =>
    have ty := T.ex.y_Gap.ty T.ex.l_Gap ha
    have e1 : decide (V.str (pcW (.gap d)) = V.str "gap") = true := by show decide (V.str ("gap" : Str) = V.str "gap") = true; decide
    have e2 : decide (V.str (pcW (.gap d)) = V.str "glass") = false := by show decide (V.str ("gap" : Str) = V.str "glass") = false; decide
    have e3 : decide (V.str (pcW (.gap d)) = V.str "stop") = false := by show decide (V.str ("gap" : Str) = V.str "stop") = false; decide
    refine ⟨_, rfl, _, _, _, _, _, rfl, ty, rfl, rel_ref, T.ex.k_Gap_Gap, _, rfl, _, _, _, _, _, rfl, ty, rfl, rel_ref, T.ex.k_Gap_Glass, _, rfl, _, _, _, _, _, rfl, ty, rfl, rel_ref, T.ex.k_Gap_Stop, (by show 3 ≤ sizeLine; decide), fun p1 hp1 => ?_⟩
    have u1 := same_new hp1 (.lst [.bl true, .bl false, .bl false])
    refine ⟨_, rfl, _, rfl, rfl, _, rfl, rfl, _, rfl, rfl, (by show 3 ≤ sizeLine; decide), fun p2 hp2 => ?_⟩
    rw [e1, e2, e3]
    have u2 := same_new hp2 (.lst [.bl true, .bl false, .bl false])
    exact eq_same (n := 1) (d := .list [.bool true, .bool false, .bool false]) (.lst (SqL.of (u2 _ _ upd_same)) (.cons (.bl _) (.cons (.bl _) (.cons (.bl _) .nil)))) (.lst (SqL.of upd_same) (.cons (.bl _) (.cons (.bl _) (.cons (.bl _) .nil)))) ⟨by decide +kernel, by decide +kernel⟩ (q _ (u1.trans u2))
  | @glass a dx x d ha hx =>
    have ty := T.ex.y_Glass.ty T.ex.l_Glass ha
    have e1 : decide (V.str (pcW (.glass d)) = V.str "gap") = false := by show decide (V.str ("glass" : Str) = V.str "gap") = false; decide
    have e2 : decide (V.str (pcW (.glass d)) = V.str "glass") = true := by show decide (V.str ("glass" : Str) = V.str "glass") = true; decide
    have e3 : decide (V.str (pcW (.glass d)) = V.str "stop") = false := by show decide (V.str ("glass" : Str) = V.str "stop") = false; decide
    refine ⟨_, rfl, _, _, _, _, _, rfl, ty, rfl, rel_ref, T.ex.k_Glass_Gap, _, rfl, _, _, _, _, _, rfl, ty, rfl, rel_ref, T.ex.k_Glass_Glass, _, rfl, _, _, _, _, _, rfl, ty, rfl, rel_ref, T.ex.k_Glass_Stop, (by show 3 ≤ sizeLine; decide), fun p1 hp1 => ?_⟩
    have u1 := same_new hp1 (.lst [.bl false, .bl true, .bl false])
    refine ⟨_, rfl, _, rfl, rfl, _, rfl, rfl, _, rfl, rfl, (by show 3 ≤ sizeLine; decide), fun p2 hp2 => ?_⟩
    rw [e1, e2, e3]
    have u2 := same_new hp2 (.lst [.bl false, .bl true, .bl false])
    exact eq_same (n := 1) (d := .list [.bool false, .bool true, .bool false]) (.lst (SqL.of (u2 _ _ upd_same)) (.cons (.bl _) (.cons (.bl _) (.cons (.bl _) .nil)))) (.lst (SqL.of upd_same) (.cons (.bl _) (.cons (.bl _) (.cons (.bl _) .nil)))) ⟨by decide +kernel, by decide +kernel⟩ (q _ (u1.trans u2))
  | @stop a dx x y lo hi ha hx hy =>
    have ty := T.ex.y_Stop.ty T.ex.l_Stop ha
    have e1 : decide (V.str (pcW (.stop lo hi)) = V.str "gap") = false := by show decide (V.str ("stop" : Str) = V.str "gap") = false; decide
    have e2 : decide (V.str (pcW (.stop lo hi)) = V.str "glass") = false := by show decide (V.str ("stop" : Str) = V.str "glass") = false; decide
    have e3 : decide (V.str (pcW (.stop lo hi)) = V.str "stop") = true := by show decide (V.str ("stop" : Str) = V.str "stop") = true; decide
    refine ⟨_, rfl, _, _, _, _, _, rfl, ty, rfl, rel_ref, T.ex.k_Stop_Gap, _, rfl, _, _, _, _, _, rfl, ty, rfl, rel_ref, T.ex.k_Stop_Glass, _, rfl, _, _, _, _, _, rfl, ty, rfl, rel_ref, T.ex.k_Stop_Stop, (by show 3 ≤ sizeLine; decide), fun p1 hp1 => ?_⟩
    have u1 := same_new hp1 (.lst [.bl false, .bl false, .bl true])
    refine ⟨_, rfl, _, rfl, rfl, _, rfl, rfl, _, rfl, rfl, (by show 3 ≤ sizeLine; decide), fun p2 hp2 => ?_⟩
    rw [e1, e2, e3]
    have u2 := same_new hp2 (.lst [.bl false, .bl false, .bl true])
    exact eq_same (n := 1) (d := .list [.bool false, .bool false, .bool true]) (.lst (SqL.of (u2 _ _ upd_same)) (.cons (.bl _) (.cons (.bl _) (.cons (.bl _) .nil)))) (.lst (SqL.of upd_same) (.cons (.bl _) (.cons (.bl _) (.cons (.bl _) .nil)))) ⟨by decide +kernel, by decide +kernel⟩ (q _ (u1.trans u2))
theorem c__law_truth (T : Txt K mg ad) : CalB P w K mg base true 1 "_law_truth" ["_law_found", "_law_due"] spTruth07 := by
  refine T.t__law_truth.calN sc__law_truth (fun _ _ _ _ _ _ => by2 fun _ _ => rfl) (fun vs H Q E h => ?_) (fun f cdv A outer s H vs Q E hr h => ?_)
  · obtain ⟨_, rfl, _⟩ := h; rfl
  obtain ⟨b, rfl, q⟩ := h
  refine ⟨_, (pss_one (ps_ret (pe_and (pe_callB call_isiD rfl T.isinstance bt_isinstance (pa_name (pv 0) (pa_name (pe_bltn (v := .ty "bool") rfl T.bool bt_bool rfl) pa_nil))) (pe_one (pe_cmpR op_eq (pv 0) (pv 1) (nomark _)))))), ?_⟩
  refine ⟨_, rfl, _, _, _, true, rfl, .bl b, rfl, true, rfl, iteT ?_⟩
  refine ⟨_, rfl, _, rfl, rfl, ?_⟩
  show Q (.bl (decide (V.bl b = V.bl b))) H
  rw [decide_eq_true rfl]
  exact q
theorem ob_ty (T : Txt K mg ad) {H : Hp} {v : V} {p : Pc} (h : ObAt K ad.Gap ad.Glass ad.Stop H v p) : ∃ C, TyOf K H v C ∧ PySem.W.kitOne K C (.ref ad.Piece) = some true := by
  cases h with
  | gap ha hx => exact ⟨_, T.ex.y_Gap.ty T.ex.l_Gap ha, T.ex.k_Gap_Piece⟩
  | glass ha hx => exact ⟨_, T.ex.y_Glass.ty T.ex.l_Glass ha, T.ex.k_Glass_Piece⟩
  | stop ha hx hz => exact ⟨_, T.ex.y_Stop.ty T.ex.l_Stop ha, T.ex.k_Stop_Piece⟩
theorem ok_law (T : Txt K mg ad) {fa : Addr} {fd : FuncData} (F : Fun K "law" "law" s_law fa fd) : FnB P w K mg base true 11 fa fd ["_law_script"] (spLaw K) := by
  have C__law_drawn := c__law_drawn (P := P) (w := w) (base := base) T
  have C__law_cell_at := c__law_cell_at (P := P) (w := w) (base := base) T
  have C__law_piece := c__law_piece (P := P) (w := w) (base := base) T
  have C__law_wrong := c__law_wrong (P := P) (w := w) (base := base) T
  have C__law_is_of := c__law_is_of (P := P) (w := w) (base := base) T
  have C__law_truth := c__law_truth (P := P) (w := w) (base := base) T
  have C_piece_of := c_piece_of (P := P) (w := w) (base := base) T
  have C_is_piece := x_is_piece (P := P) (w := w) (base := base) T
  refine F.okB sc_law (fun vs H Q E h => ?_) (fun cdv A outer s H vs Q E hr h => ?_)
  · obtain ⟨a, ns, rfl, _⟩ := h; rfl
  obtain ⟨a, ns, rfl, hS, h63, q⟩ := h
  refine ⟨_, (pss_cons (ps_set (i := 1) sc_law.nd rfl (Or.inl rfl) (pe_cB C__law_drawn (hr.mono (by decide)) pass01 (pa_name (pv 0) (pa_const pe_int pa_nil)))) (pss_cons (ps_set (i := 2) sc_law.nd rfl (Or.inl rfl) (pe_cmpR op_eq (pe_op op_mod (pe_cB C__law_cell_at (hr.mono (by decide)) pass01 (pa_name (pv 0) (pa_const pe_int pa_nil))) pe_int) pe_int (nomark _))) (pss_cons (ps_for PassesOwn.never rfl (pi_list (pe_op op_cat (pe_slice sl_list (pv 0) (po_some pe_int) (po_some pe_int)) (pe_lst (pa_call (pe_callB call_len_seq rfl T.len bt_len (pa_name (pv 0) pa_nil)) pa_nil)))) (pg_name (i := 3) sc_law.nd rfl (by first | exact Or.inl rfl | exact Or.inr rfl)) (pss_cons (ps_set (i := 4) sc_law.nd rfl (Or.inl rfl) (pe_cB C__law_piece (hr.mono (by decide)) pass01 (pa_name (pv 1) (pa_name (pv 2) pa_nil)))) (pss_cons (ps_set (i := 5) sc_law.nd rfl (Or.inl rfl) (pe_cB C__law_wrong (hr.mono (by decide)) pass01 (pa_name (pv 4) (pa_bin (pe_op op_fdiv (pe_op op_mod (pe_op op_mul (pv 3) pe_int) pe_int) pe_int) pa_nil)))) (pss_cons (ps_if (PW.pt (pw_or (pt_not (pt_val (pe_cB C__law_truth (hr.mono (by decide)) pass01 (pa_call (pe_cB C_is_piece (hr.mono (by decide)) pass01 (pa_name (pv 4) pa_nil)) (pa_const pe_bl pa_nil))))) (pw_or1 (pt_not (pt_val (pe_cB C__law_truth (hr.mono (by decide)) pass01 (pa_call (pe_cB C_is_piece (hr.mono (by decide)) pass01 (pa_name (pv 5) pa_nil)) (pa_const pe_bl pa_nil)))))))) (pss_one (ps_ret pe_bl)) pss_nil) (pss_cons (ps_set (i := 6) sc_law.nd rfl (Or.inl rfl) (pe_cB C_piece_of (hr.mono (by decide)) pass01 (pa_name (pv 4) pa_nil))) (pss_cons (ps_if (PW.pt (pw_or (pt_not (pt_val (pe_callB call_isiT rfl T.isinstance bt_isinstance (pa_name (pv 6) (pa_name (pe_glob (v := .ref ad.Piece) rfl T.ex.m_Piece rfl) pa_nil))))) (pw_or1 (pt_not (pt_val (pe_cB C__law_is_of (hr.mono (by decide)) pass01 (pa_name (pv 6) (pa_sub (pe_ix ix_tup (pv 4) pe_int (fun _ _ => rfl)) pa_nil)))))))) (pss_one (ps_ret pe_bl)) pss_nil) (pss_one (ps_if (PW.pt (pw_or (pt_cmpR (op_neD hr.units) (pe_mB0 (k := 4) (pv 6) (hr.mono (by decide))) (pv 4) (nomark _)) (pw_or (pt_not (pt_val (pe_callB call_isiD rfl T.isinstance bt_isinstance (pa_call (pe_mB0 (k := 4) (pv 6) (hr.mono (by decide))) (pa_name (pe_bltn (v := .ty "tuple") rfl T.tuple bt_tuple rfl) pa_nil))))) (pw_or1 (pt_not (pt_val (pe_cB C__law_truth (hr.mono (by decide)) pass01 (pa_call (pe_cB C_is_piece (hr.mono (by decide)) pass01 (pa_call (pe_mB0 (k := 4) (pv 6) (hr.mono (by decide))) pa_nil)) (pa_const pe_bl pa_nil))))))))) (pss_one (ps_ret pe_bl)) pss_nil)))))))) (pss_one (ps_ret pe_bl))))), ?_⟩
  refine ⟨_, rfl, a, ns, 23, rfl, hS, fun d c L H1 s1 nd hd => ?_⟩
  refine ⟨_, rfl, a, ns, 0, rfl, hS.keep s1, by decide, fun z0 => ?_⟩
  refine ⟨_, _, rfl, rfl, (by show (0 : Int) < 16; decide), rfl, ?_⟩
  dsimp only
  generalize decide (V.int (z0 % 16) = V.int 5) = far
  -- the cells
  have hS1 := hS.keep s1
  refine ⟨_, rfl, _, rfl, _, rfl, a, _, rfl, hS1, fun p1 hp1 => ?_⟩
  have v1 := same_new hp1 (.lst (cutV (ns.map V.int) (some 1) (some 51)))
  have z1 := cutV_le (ns.map V.int) 1 51
  change (cutV (ns.map V.int) (some 1) (some 51)).length ≤ _ at z1
  have i1 := cut_ints ns (some 1) (some 51)
  generalize cutV (ns.map V.int) (some 1) (some 51) = L1 at v1 z1 i1 ⊢
  refine ⟨_, rfl, a, _, rfl, .inl (hS1.keep v1), (by show 1 ≤ sizeLine; decide), fun p2 hp2 => ?_⟩
  generalize hn : (((ns.map V.int).length : Nat) : Int) = nn
  have v2 := same_new hp2 (.lst [.int nn])
  refine ⟨p1, p2, _, _, rfl, rfl, v2 _ _ upd_same, upd_same, Nat.le_of_lt (small1000 (by simp only [List.length_cons, List.length_nil]; omega)), fun p3 hp3 => ⟨p3, rfl, ⟨_, SqL.of upd_same⟩, ?_⟩⟩
  have v3 := same_new hp3 (.lst (L1 ++ [.int nn]))
  have v13 := v1.trans (v2.trans v3)
  have hL : ∀ x ∈ L1 ++ [V.int nn], ∃ z : Int, x = .int z := fun x hx => by
    rcases List.mem_append.mp hx with h | h
    · exact i1 x h
    · exact ⟨nn, List.mem_singleton.mp h⟩
  have hd0 := hd.keep v13
  have hp30 : upd (upd (upd H1 p1 (.lst L1)) p2 (.lst [.int nn])) p3 (.lst (L1 ++ [.int nn])) p3 = some (.lst (L1 ++ [.int nn])) := upd_same
  generalize upd (upd (upd H1 p1 (.lst L1)) p2 (.lst [.int nn])) p3 (.lst (L1 ++ [.int nn])) = H0 at hd0 hp30 ⊢
  generalize L1 ++ [V.int nn] = LL at hL hp30 ⊢
  have n3 : p3 ≠ d := fun e => by
    obtain ⟨_, _, _, h⟩ := hd0.d
    rw [e, h] at hp30
    cases hp30
    obtain ⟨z, e⟩ := hL (.ref c) (by simp)
    cases e
  refine for_list (K := K) (a := p3) (xs := LL) (fun i σ H2 => ∃ c3 c4 c5 c6, σ = [some (.ref a), some (.ref d), some (.bl far), c3, c4, c5, c6] ∧ DrA H2 d c L ∧ SD d H0 H2) ⟨_, _, _, _, rfl, hd0, SD.refl _ _⟩ ?_ ?_ ?_
  · rintro i σ H2 hi ⟨c3, c4, c5, c6, rfl, hd2, s2⟩
    exact SqL.of (s2 _ _ n3 hp30)
  · rintro i x σ H2 hi ⟨c3, c4, c5, c6, rfl, hd2, s2⟩
    obtain ⟨z, rfl⟩ := hL x (List.mem_of_getElem? hi)
    refine ⟨_, rfl, _, rfl, d, c, L, far, rfl, hd2, fun v H3 p hd3 s3 hv pok pb => ?_⟩
    refine ⟨_, rfl, _, rfl, _, _, rfl, rfl, .inr ⟨by decide, by decide⟩, _, _, rfl, rfl, (by show (0 : Int) < 2147483647; decide), _, _, rfl, rfl, ⟨by decide, by decide⟩, v, p, _, rfl, hv, pok, pb, fun v' dd H4 s4 hv' odd => ?_⟩
    have pD := pieceD_pc pok
    have sP := smP_pc (by decide) pb
    refine ⟨_, rfl, v, pcD p, rfl, hv.keep s4, sP, fun H5 s5 => ?_⟩
    rw [pD]
    refine ⟨true, rfl, _, rfl, iteF ?_⟩
    refine ⟨_, rfl, v', dd, rfl, hv'.keep s5, odd.2, fun H6 s6 => ?_⟩
    rw [odd.1]
    refine ⟨false, rfl, _, rfl, iteF ?_⟩
    have s36 := s4.trans (s5.trans s6)
    refine ⟨_, rfl, v, p, rfl, hv.keep s36, fun o H7 s7 ho => ?_⟩
    obtain ⟨C, ty, kt⟩ := ob_ty T ho
    have s37 := s36.trans s7
    obtain ⟨pa, x1, r, rfl, hpa⟩ := pc_word hv
    refine ⟨_, rfl, _, _, _, _, _, rfl, ty, rfl, rel_ref, kt, _, rfl, iteF ?_⟩
    refine ⟨_, rfl, _, rfl, pa, _, _, _, rfl, rfl, hpa.keep s37, atI0, _, p, rfl, ho, fun H8 s8 => ⟨_, rfl, iteF ?_⟩⟩
    -- told
    have ho8 := ho.keep s8
    obtain ⟨oa, C, dx, fs, pps, sp, q1, q2, q3, M, hsp⟩ := ob_told (P := P) (w := w) (base := base) T ho8
    refine ⟨_, rfl, oa, C, dx, fs, pps, sp, q1, q2, q3, M, hsp _ (fun w1 H9 s9 hw1 => ?_)⟩
    have s89 := s8.trans s9
    refine ⟨_, rfl, ne_same hw1 (hv.keep (s37.trans s89)) (flat_pc p) ⟨_, rfl, iteF ?_⟩⟩
    obtain ⟨oa, C, dx, fs, pps, sp, q1, q2, q3, M, hsp⟩ := ob_told (P := P) (w := w) (base := base) T (ho8.keep s9)
    refine ⟨_, rfl, oa, C, dx, fs, pps, sp, q1, q2, q3, M, hsp _ (fun w2 H10 s10 hw2 => ?_)⟩
    refine ⟨_, _, _, true, rfl, hw2, isTup_pc p, _, rfl, iteF ?_⟩
    obtain ⟨oa, C, dx, fs, pps, sp, q1, q2, q3, M, hsp⟩ := ob_told (P := P) (w := w) (base := base) T (ho8.keep (s9.trans s10))
    refine ⟨_, rfl, oa, C, dx, fs, pps, sp, q1, q2, q3, M, hsp _ (fun w3 H11 s11 hw3 => ?_)⟩
    refine ⟨w3, pcD p, rfl, hw3, sP, fun H12 s12 => ?_⟩
    rw [pD]
    refine ⟨true, rfl, _, rfl, iteF ?_⟩
    have s312 := s37.trans (s89.trans (s10.trans (s11.trans s12)))
    exact ⟨_, _, _, _, rfl, hd3.keep s312, s2.trans (s3.trans (s312.sd d))⟩
  · rintro σ H2 ⟨c3, c4, c5, c6, rfl, hd2, s2⟩
    exact q _
theorem law_fd {fa : Addr} (F : TopFn K mg "law" s_law) (hmg : mg "law" = some (.ref fa)) : ∃ fd, Fun K "law" "law" s_law fa fd ∧ ∀ (s : Shared) (u : Value), BindsTo s fd ⟨[u], []⟩ [("_law_script", u)] := by
  obtain ⟨f, fd, F, hm⟩ := F.ex
  cases hmg.symm.trans hm
  obtain ⟨oc, od, kV, doc, pm, an, cdv, ct, osl, rfl, l, c⟩ := id F.ex
  exact ⟨_, F, fun s u => .of_eq rfl⟩
end
end K07
namespace K07
open PySem L2 Lib
theorem walk {l : PySem.W.OpenLaw} {q : Program} {loose : List Str} {XP : (Str → Option Value) → Heap → Prop} {YP : World → Heap → Prop} {d : DefRec} {K : Params → PySem.W.Frag} (hn : l.most = some 63) (hdf : d.params.defaults = [])
    (hY : ∀ (w : World) (h : Heap), YP w h → (K w.params).In h)
    (F : ∀ (w : World) (mg : Str → Option Value) (fa : Addr) (h : Heap), (K w.params).In h → h.Ns mainGlobals mg → mg d.name = some (.ref fa) →
      ∃ fd : FuncData, (∀ (s : Shared) (u : Value), BindsTo s fd ⟨[u], []⟩ [("_law_script", u)]) ∧ ∀ base : Heap, (K w.params).In base → base.Ns mainGlobals mg → FnOk l.prog w (K w.params) mg base (CX1 l.prog w) 11 fa fd ["_law_script"] (spLaw (K w.params))) :
    PySem.W.WalkO q loose XP YP l.row.toRowW d [] (fun f vs => PySem.call f vs) :=
  L2.walk_of (n := 63) (k := 11) (x := "_law_script") (CX := fun w => CX1 l.prog w) (sp := fun w => spLaw (K w.params)) hn (by decide) hdf ⟨rfl, by decide, by decide⟩ hY F (fun _ _ a ns hl _ hS => ⟨a, ns, rfl, hS, hl, fun _ => rfl⟩) fun _ _ _ _ _ z => by
    obtain ⟨_, _, _, _, _, _, _, _, _, _, _, _, q⟩ := z
    exact q
end K07
def PySem.W.Fast.tw7580732928833595309 : Unit := ()
def PySem.W.Fast.tw353041404817555776 : Unit := ()
def PySem.W.Fast.tw981224217964163976 : Unit := ()
def PySem.W.Fast.tw14379605758529837615 : Unit := ()
def PySem.W.Fast.tw1564637996450621805 : Unit := ()
def PySem.W.Fast.tw5225879484816896625 : Unit := ()
def PySem.W.Fast.tw9069938811676443056 : Unit := ()
def PySem.W.Fast.tw8022638709016522794 : Unit := ()
def PySem.W.Fast.tw4178708281285106724 : Unit := ()
def PySem.W.Fast.tw14511032928103342502 : Unit := ()
def PySem.W.Fast.tw6434984494695892547 : Unit := ()
def PySem.W.Fast.tw13740540422844232973 : Unit := ()
def PySem.W.Fast.tw15359050269675956458 : Unit := ()
def PySem.W.Fast.tw6199161316011463280 : Unit := ()
def PySem.W.Fast.tw16238507754456355122 : Unit := ()
def PySem.W.Fast.tw128020426168456804 : Unit := ()
def PySem.W.Fast.tw18320716522554651212 : Unit := ()
def PySem.W.Fast.tw690620916176985480 : Unit := ()
def PySem.W.Fast.tw12174916115278490758 : Unit := ()
def PySem.W.Fast.tw1213153624460521830 : Unit := ()
def PySem.W.Fast.tw14861544376675973977 : Unit := ()
def PySem.W.Fast.tw12462953329015852756 : Unit := ()
def PySem.W.Fast.tw6000512321320710506 : Unit := ()
def PySem.W.Fast.tw14860253019020410955 : Unit := ()
open PySem PySem.W PyProof.Rows
set_option maxRecDepth 100000 in
set_option maxHeartbeats 0 in
theorem PySem.Challenge.cw_grindbench_k07_what_is_a_piece_holds : PySem.Challenge.rw_grindbench_k07_what_is_a_piece.Holds := by
  w_on; o_law; k_head; (case hw => w_witness2)
  k_fill
  refine K07.walk (l := PySem.Challenge.rw_grindbench_k07_what_is_a_piece) rfl rfl (fun w h Y => PySem.W.kIn_of Y) ?F
  case F =>
    intro w mg fa h KX G hmg
    have t_is_whole : L2.TopFn (L2.KOf KX) mg "is_whole" K07.s_is_whole := by
      dsimp only [L2.KOf]
      refine' L2.topFn_mk KX G ?a ?l ?c ?k
      (case a => k_is); (case l => k_is); (case c => k_is); (case k => k_is)
    have t_common_divisor : L2.TopFn (L2.KOf KX) mg "common_divisor" K07.s_common_divisor := by
      dsimp only [L2.KOf]
      refine' L2.topFn_mk KX G ?a ?l ?c ?k
      (case a => k_is); (case l => k_is); (case c => k_is); (case k => k_is)
    have t_is_ratio : L2.TopFn (L2.KOf KX) mg "is_ratio" K07.s_is_ratio := by
      dsimp only [L2.KOf]
      refine' L2.topFn_mk KX G ?a ?l ?c ?k
      (case a => k_is); (case l => k_is); (case c => k_is); (case k => k_is)
    have t_is_less : L2.TopFn (L2.KOf KX) mg "is_less" K07.s_is_less := by
      dsimp only [L2.KOf]
      refine' L2.topFn_mk KX G ?a ?l ?c ?k
      (case a => k_is); (case l => k_is); (case c => k_is); (case k => k_is)
    have t_is_piece : L2.TopFn (L2.KOf KX) mg "is_piece" K07.s_is_piece := by
      dsimp only [L2.KOf]
      refine' L2.topFn_mk KX G ?a ?l ?c ?k
      (case a => k_is); (case l => k_is); (case c => k_is); (case k => k_is)
    have t_piece_of : L2.TopFn (L2.KOf KX) mg "piece_of" K07.s_piece_of := by
      dsimp only [L2.KOf]
      refine' L2.topFn_mk KX G ?a ?l ?c ?k
      (case a => k_is); (case l => k_is); (case c => k_is); (case k => k_is)
    have t__law_cell_at : L2.TopFn (L2.KOf KX) mg "_law_cell_at" K07.s__law_cell_at := by
      dsimp only [L2.KOf]
      refine' L2.topFn_mk KX G ?a ?l ?c ?k
      (case a => k_is); (case l => k_is); (case c => k_is); (case k => k_is)
    have t__law_drawn : L2.TopFn (L2.KOf KX) mg "_law_drawn" K07.s__law_drawn := by
      dsimp only [L2.KOf]
      refine' L2.topFn_mk KX G ?a ?l ?c ?k
      (case a => k_is); (case l => k_is); (case c => k_is); (case k => k_is)
    have t__law_draw : L2.TopFn (L2.KOf KX) mg "_law_draw" K07.s__law_draw := by
      dsimp only [L2.KOf]
      refine' L2.topFn_mk KX G ?a ?l ?c ?k
      (case a => k_is); (case l => k_is); (case c => k_is); (case k => k_is)
    have t__law_low : L2.TopFn (L2.KOf KX) mg "_law_low" K07.s__law_low := by
      dsimp only [L2.KOf]
      refine' L2.topFn_mk KX G ?a ?l ?c ?k
      (case a => k_is); (case l => k_is); (case c => k_is); (case k => k_is)
    have t__law_under : L2.TopFn (L2.KOf KX) mg "_law_under" K07.s__law_under := by
      dsimp only [L2.KOf]
      refine' L2.topFn_mk KX G ?a ?l ?c ?k
      (case a => k_is); (case l => k_is); (case c => k_is); (case k => k_is)
    have t__law_part : L2.TopFn (L2.KOf KX) mg "_law_part" K07.s__law_part := by
      dsimp only [L2.KOf]
      refine' L2.topFn_mk KX G ?a ?l ?c ?k
      (case a => k_is); (case l => k_is); (case c => k_is); (case k => k_is)
    have t__law_piece : L2.TopFn (L2.KOf KX) mg "_law_piece" K07.s__law_piece := by
      dsimp only [L2.KOf]
      refine' L2.topFn_mk KX G ?a ?l ?c ?k
      (case a => k_is); (case l => k_is); (case c => k_is); (case k => k_is)
    have t__law_wrong : L2.TopFn (L2.KOf KX) mg "_law_wrong" K07.s__law_wrong := by
      dsimp only [L2.KOf]
      refine' L2.topFn_mk KX G ?a ?l ?c ?k
      (case a => k_is); (case l => k_is); (case c => k_is); (case k => k_is)
    have t__law_is_of : L2.TopFn (L2.KOf KX) mg "_law_is_of" K07.s__law_is_of := by
      dsimp only [L2.KOf]
      refine' L2.topFn_mk KX G ?a ?l ?c ?k
      (case a => k_is); (case l => k_is); (case c => k_is); (case k => k_is)
    have t__law_truth : L2.TopFn (L2.KOf KX) mg "_law_truth" K07.s__law_truth := by
      dsimp only [L2.KOf]
      refine' L2.topFn_mk KX G ?a ?l ?c ?k
      (case a => k_is); (case l => k_is); (case c => k_is); (case k => k_is)
    have t_law : L2.TopFn (L2.KOf KX) mg "law" K07.s_law := by
      dsimp only [L2.KOf]
      refine' L2.topFn_mk KX G ?a ?l ?c ?k
      (case a => k_is); (case l => k_is); (case c => k_is); (case k => k_is)
    have z_abs : mg "abs" = none := by
      refine' PySem.W.mg_none_of KX G ?a
      (case a => k_is)
    have z_all : mg "all" = none := by
      refine' PySem.W.mg_none_of KX G ?a
      (case a => k_is)
    have z_bool : mg "bool" = none := by
      refine' PySem.W.mg_none_of KX G ?a
      (case a => k_is)
    have z_int : mg "int" = none := by
      refine' PySem.W.mg_none_of KX G ?a
      (case a => k_is)
    have z_isinstance : mg "isinstance" = none := by
      refine' PySem.W.mg_none_of KX G ?a
      (case a => k_is)
    have z_len : mg "len" = none := by
      refine' PySem.W.mg_none_of KX G ?a
      (case a => k_is)
    have z_list : mg "list" = none := by
      refine' PySem.W.mg_none_of KX G ?a
      (case a => k_is)
    have z_str : mg "str" = none := by
      refine' PySem.W.mg_none_of KX G ?a
      (case a => k_is)
    have z_tuple : mg "tuple" = none := by
      refine' PySem.W.mg_none_of KX G ?a
      (case a => k_is)
    have X0 : ∃ ad, K07.Exc (L2.KOf KX) mg ad := by
      dsimp only [L2.KOf]
      refine' ⟨_, K07.exc_mk KX G ?m_Piece ?m_Gap ?m_Glass ?m_Stop ?m_GAP ?m_GLASS ?m_STOP ?pg_Gap ?hd_Gap ?po_Gap ?sa_Gap ?mk_Gap_init ?a_Gap_init ?fn_Gap_init ?kc_Gap_init ?l_Gap_init ?c_Gap_init ?kp_Gap_init ?a_Gap_told ?fn_Gap_told ?kp_Gap_told ?l_Gap_told ?c_Gap_told ?n_Gap_length ?ha_Gap ?hn_Gap ?ht_Gap ?hm_Gap ?k_Gap_Gap ?k_Gap_Glass ?k_Gap_Stop ?k_Gap_Piece ?pg_Glass ?hd_Glass ?po_Glass ?sa_Glass ?mk_Glass_init ?a_Glass_init ?fn_Glass_init ?kc_Glass_init ?l_Glass_init ?c_Glass_init ?kp_Glass_init ?a_Glass_told ?fn_Glass_told ?kp_Glass_told ?l_Glass_told ?c_Glass_told ?n_Glass_strength ?ha_Glass ?hn_Glass ?ht_Glass ?hm_Glass ?k_Glass_Gap ?k_Glass_Glass ?k_Glass_Stop ?k_Glass_Piece ?pg_Stop ?hd_Stop ?po_Stop ?sa_Stop ?mk_Stop_init ?a_Stop_init ?fn_Stop_init ?kc_Stop_init ?l_Stop_init ?c_Stop_init ?kp_Stop_init ?a_Stop_told ?fn_Stop_told ?kp_Stop_told ?l_Stop_told ?c_Stop_told ?n_Stop_low ?n_Stop_high ?ha_Stop ?hn_Stop ?ht_Stop ?hm_Stop ?k_Stop_Gap ?k_Stop_Glass ?k_Stop_Stop ?k_Stop_Piece⟩
      (case m_Piece => k_is); (case m_Gap => k_is); (case m_Glass => k_is); (case m_Stop => k_is); (case m_GAP => k_is); (case m_GLASS => k_is); (case m_STOP => k_is); (case pg_Gap => k_is); (case hd_Gap => k_is); (case po_Gap => k_is); (case sa_Gap => k_is); (case mk_Gap_init => k_is); (case a_Gap_init => k_is); (case fn_Gap_init => k_is); (case kc_Gap_init => k_is); (case l_Gap_init => k_is); (case c_Gap_init => k_is); (case kp_Gap_init => k_is); (case a_Gap_told => k_is); (case fn_Gap_told => k_is); (case kp_Gap_told => k_is); (case l_Gap_told => k_is); (case c_Gap_told => k_is); (case n_Gap_length => k_is); (case ha_Gap => k_is); (case hn_Gap => k_is); (case ht_Gap => k_is); (case hm_Gap => k_is); (case k_Gap_Gap => kit_is); (case k_Gap_Glass => kit_is); (case k_Gap_Stop => kit_is); (case k_Gap_Piece => kit_is); (case pg_Glass => k_is); (case hd_Glass => k_is); (case po_Glass => k_is); (case sa_Glass => k_is); (case mk_Glass_init => k_is); (case a_Glass_init => k_is); (case fn_Glass_init => k_is); (case kc_Glass_init => k_is); (case l_Glass_init => k_is); (case c_Glass_init => k_is); (case kp_Glass_init => k_is); (case a_Glass_told => k_is); (case fn_Glass_told => k_is); (case kp_Glass_told => k_is); (case l_Glass_told => k_is); (case c_Glass_told => k_is); (case n_Glass_strength => k_is); (case ha_Glass => k_is); (case hn_Glass => k_is); (case ht_Glass => k_is); (case hm_Glass => k_is); (case k_Glass_Gap => kit_is); (case k_Glass_Glass => kit_is); (case k_Glass_Stop => kit_is); (case k_Glass_Piece => kit_is); (case pg_Stop => k_is); (case hd_Stop => k_is); (case po_Stop => k_is); (case sa_Stop => k_is); (case mk_Stop_init => k_is); (case a_Stop_init => k_is); (case fn_Stop_init => k_is); (case kc_Stop_init => k_is); (case l_Stop_init => k_is); (case c_Stop_init => k_is); (case kp_Stop_init => k_is); (case a_Stop_told => k_is); (case fn_Stop_told => k_is); (case kp_Stop_told => k_is); (case l_Stop_told => k_is); (case c_Stop_told => k_is); (case n_Stop_low => k_is); (case n_Stop_high => k_is); (case ha_Stop => k_is); (case hn_Stop => k_is); (case ht_Stop => k_is); (case hm_Stop => k_is); (case k_Stop_Gap => kit_is); (case k_Stop_Glass => kit_is); (case k_Stop_Stop => kit_is); (case k_Stop_Piece => kit_is)
    obtain ⟨ad, X0⟩ := X0
    obtain ⟨fd, FL, bL⟩ := K07.law_fd t_law hmg
    exact ⟨fd, bL, fun base _ _ => L2.FnB.ok (K07.ok_law ⟨X0, z_abs, z_all, z_bool, z_int, z_isinstance, z_len, z_list, z_str, z_tuple, t_is_whole, t_common_divisor, t_is_ratio, t_is_less, t_is_piece, t_piece_of, t__law_cell_at, t__law_drawn, t__law_draw, t__law_low, t__law_under, t__law_part, t__law_piece, t__law_wrong, t__law_is_of, t__law_truth⟩ FL)⟩
#print axioms PySem.Challenge.cw_grindbench_k07_what_is_a_piece_holds
