import PyProof.Rows.All
import Wide.All
import OpenK.AllK
import Wide.FinOn
import Lean
import PyProof.EqAt
import PyProof.EqKinds
import PyProof.TupleCall
import PySem.Challenge.RW_grindbench_k65_whole_wished_images
set_option Elab.async false
set_option linter.all false
set_option maxRecDepth 100000
set_option maxHeartbeats 1000000
namespace L2
open PySem PySem.Spec PyProof.Rows
abbrev Key := Sum Int Str
def keyIs : Key → Value → Bool
  | .inl k, v => Value.isInt k v
  | .inr x, v => Value.isStrOf x v
def keyH (w : World) : Key → Int
  | .inl k => hashInt k
  | .inr x => hashStr w x
theorem keyIs_shape : ∀ {k : Key} {v : Value}, keyIs k v = true → (∃ i t, k = Sum.inl i ∧ v = Value.int i t) ∨ (∃ x t, k = Sum.inr x ∧ v = Value.str x t)
  | .inl i, v, h => by
    obtain ⟨t, e⟩ := Value.isInt_shape (k := i) (v := v) h
    exact .inl ⟨i, t, rfl, e⟩
  | .inr x, v, h => by
    obtain ⟨t, e⟩ := Value.isStrOf_shape (x := x) (v := v) h
    exact .inr ⟨x, t, rfl, e⟩
theorem keyIs_int (i : Int) (t : Tok) : keyIs (.inl i) (.int i t) = true := by simp [keyIs, Value.isInt]
theorem keyIs_str (x : Str) (t : Tok) : keyIs (.inr x) (.str x t) = true := by simp [keyIs, Value.isStrOf]
theorem key_ll (a b : Int) : decide ((Sum.inl a : Key) = Sum.inl b) = (a == b) := by
  by_cases e : a = b
  · subst e; simp
  · have h : ¬ (Sum.inl a : Key) = Sum.inl b := fun q => e (Sum.inl.inj q)
    rw [decide_eq_false h]
    exact (beq_eq_false_iff_ne.mpr e).symm
theorem key_rr (a b : Str) : decide ((Sum.inr a : Key) = Sum.inr b) = decide (a = b) := by
  by_cases e : a = b
  · subst e; simp
  · have h : ¬ (Sum.inr a : Key) = Sum.inr b := fun q => e (Sum.inr.inj q)
    rw [decide_eq_false h, decide_eq_false e]
theorem key_lr (a : Int) (b : Str) : decide ((Sum.inl a : Key) = Sum.inr b) = false := decide_eq_false (fun q => nomatch q)
theorem key_rl (a : Str) (b : Int) : decide ((Sum.inr a : Key) = Sum.inl b) = false := decide_eq_false (fun q => nomatch q)
def mixKind (prog : Program) (w : World) : PySem.KeyKind prog w Key where
  is := keyIs
  hash := keyH w
  inj := fun v a b ha hb => by
    rcases keyIs_shape ha with ⟨i, t, rfl, rfl⟩ | ⟨x, t, rfl, rfl⟩
    · rcases keyIs_shape hb with ⟨j, u, rfl, e⟩ | ⟨y, u, rfl, e⟩
      · injection e with e1 _; rw [e1]
      · exact nomatch e
    · rcases keyIs_shape hb with ⟨j, u, rfl, e⟩ | ⟨y, u, rfl, e⟩
      · exact nomatch e
      · injection e with e1 _; rw [e1]
  byValue := fun k v h => by
    rcases keyIs_shape h with ⟨i, t, rfl, rfl⟩ | ⟨x, t, rfl, rfl⟩ <;> rfl
  pyHash := fun hv h => by
    rcases keyIs_shape hv with ⟨i, t, rfl, rfl⟩ | ⟨x, t, rfl, rfl⟩
    · exact wpAny_pyHash_int h
    · exact wpAny_pyHash_str h
  eqBool := fun hu hv h => by
    rcases keyIs_shape hu with ⟨i, t, rfl, rfl⟩ | ⟨x, t, rfl, rfl⟩
    · rcases keyIs_shape hv with ⟨j, u, rfl, rfl⟩ | ⟨y, u, rfl, rfl⟩
      · rw [key_ll] at h; exact wpAny_eqBool_int h
      · rw [key_lr] at h; exact SeqAt.EqAt.int_str i t y u _ _ _ _ h
    · rcases keyIs_shape hv with ⟨j, u, rfl, rfl⟩ | ⟨y, u, rfl, rfl⟩
      · rw [key_rl] at h; exact SeqAt.EqAt.str_int x t j u _ _ _ _ h
      · rw [key_rr] at h; exact wpAny_eqBool_str h
  «strs» := fun k x t v h => by
    rcases keyIs_shape h with ⟨i, u, rfl, e⟩ | ⟨y, u, rfl, e⟩
    · exact nomatch e
    · injection e with e1 _
      subst e1
      cases v <;> rfl
theorem mixKind_int (prog : Program) (w : World) (i : Int) (t : Tok) : (mixKind prog w).is (.inl i) (.int i t) = true := keyIs_int i t
theorem mixKind_str (prog : Program) (w : World) (x : Str) (t : Tok) : (mixKind prog w).is (.inr x) (.str x t) = true := keyIs_str x t
end L2
namespace L2
open PySem PySem.Spec PyProof.Rows
inductive V where
  | non | bl (b : Bool) | int (i : Int) | str (x : Str) | byt (b : Array UInt8) | flt (b : UInt64) | ref (a : Addr) | ty (n : String)
  deriving DecidableEq
def RelV : V → Value → Prop
  | .non, u => u = Value.none
  | .bl b, u => u = Value.bool b
  | .int i, u => ∃ t, u = Value.int i t
  | .str x, u => ∃ t, u = Value.str x t
  | .byt b, u => ∃ t, u = Value.bytes b t
  | .flt b, u => ∃ t, u = Value.float b t
  | .ref a, u => u = Value.ref a
  | .ty n, u => u = Value.type n
abbrev Vals : List V → List Value → Prop := Paired RelV
theorem Vals.length {xs : List V} {us : List Value} (r : Vals xs us) : xs.length = us.length := Paired.length r
theorem Vals.get : ∀ {xs : List V} {us : List Value} {i : Nat} {x : V}, Vals xs us → xs[i]? = some x → ∃ u, us[i]? = some u ∧ RelV x u
  | _, _, _, _, .nil, e => by simp at e
  | _, _, 0, _, .cons r _, e => by simp at e; subst e; exact ⟨_, rfl, r⟩
  | _, _, i + 1, x, .cons _ t, e => by
    obtain ⟨u, h1, h2⟩ := Vals.get (i := i) (x := x) t (by simpa using e)
    exact ⟨u, by simpa using h1, h2⟩
theorem Vals.set {x : V} {u : Value} (r : RelV x u) : ∀ {xs : List V} {us : List Value} (i : Nat), Vals xs us → Vals (xs.set i x) (us.set i u)
  | _, _, _, .nil => .nil
  | _, _, 0, .cons _ t => .cons r t
  | _, _, i + 1, .cons q t => .cons q (Vals.set r i t)
theorem Vals.append : ∀ {xs ys : List V} {us ws : List Value}, Vals xs us → Vals ys ws → Vals (xs ++ ys) (us ++ ws)
  | _, _, _, _, .nil, s => s
  | _, _, _, _, .cons r t, s => .cons r (Vals.append t s)
theorem Vals.take : ∀ {xs : List V} {us : List Value} (n : Nat), Vals xs us → Vals (xs.take n) (us.take n)
  | _, _, 0, _ => .nil
  | _, _, _ + 1, .nil => .nil
  | _, _, n + 1, .cons r t => .cons r (Vals.take n t)
theorem Vals.drop : ∀ {xs : List V} {us : List Value} (n : Nat), Vals xs us → Vals (xs.drop n) (us.drop n)
  | _, _, 0, r => r
  | _, _, _ + 1, .nil => .nil
  | _, _, n + 1, .cons _ t => Vals.drop n t
def RelO : Option V → Option Value → Prop
  | some v, some u => RelV v u
  | none, none => True
  | _, _ => False
def KV {κ : Type} : List (κ × V) → List (κ × Value) → Prop := Paired fun (p : κ × V) (q : κ × Value) => p.1 = q.1 ∧ RelV p.2 q.2
def kV : Key → V
  | .inl i => .int i
  | .inr x => .str x
inductive HO where
  /-- a list -/
  | lst (xs : List V)
  /-- a tuple (never changes) -/
  | tup (xs : List V)
  /-- a dict whose keys are ints and texts; one whose keys are tuples of ints and texts (the empty one is both) -/
  | dK (kvs : List (Key × V)) | dT (kvs : List (List Key × V))
  /-- a set of ints: its members, its size -/
  | set (S : Int → Bool) (n : Nat)
  /-- an instance of the class at C, its dict at dx, its attributes -/
  | ins (C dx : Addr) (fs : List (Str × V))
  /-- the dict of the instance at x -/
  | own (x : Addr)
  /-- the dict of an exception -/
  | xd (fs : List (Str × V))
  /-- a bound method, f of x -/
  | met (f x : Addr)
  /-- a range object lo, lo + 1, .. below hi -/
  | rng (lo hi : Int)
  /-- a thing that is known to the object (the script; a dict while a loop walks it): read, never written while it is so -/
  | frz (o : Obj) (u : HO)
  /-- a code object's table -/
  | tbl (ps : Array Value)
  /-- any other thing, by what is true of its one object (a def of one's own: SetO a S n := HO.ext fun h => ..) -/
  | ext (φ : Heap → Prop)
abbrev Hp := Addr → Option HO
def upd (H : Hp) (a : Addr) (o : HO) : Hp := fun b => if b = a then some o else H b
theorem upd_same {H : Hp} {a : Addr} {o : HO} : upd H a o a = some o := by unfold upd; rw [if_pos rfl]
theorem upd_ne {H : Hp} {a b : Addr} {o : HO} (h : b ≠ a) : upd H a o b = H b := by unfold upd; rw [if_neg h]
theorem upd_upd {H : Hp} {a : Addr} {o u : HO} : upd (upd H a o) a u = upd H a u := by
  funext b; unfold upd; split <;> rfl
theorem ne_of {H : Hp} {a b : Addr} {o u : HO} (h : H a = some o) (h' : H b = some u) (d : o ≠ u) : a ≠ b := by
  intro e; subst e; rw [h] at h'; exact d (Option.some.inj h')
theorem ne_of_none {H : Hp} {a b : Addr} {o : HO} (h : H a = some o) (h' : H b = none) : a ≠ b := by
  intro e; subst e; rw [h] at h'; cases h'
section
variable (P : Program) (w : World)
def ObjOk (H : Hp) (h : Heap) (a : Addr) : HO → Prop
  | .lst xs => xs.length ≤ sizeLine ∧ ∃ (its : List Value) (n : Nat), Vals xs its ∧ h.get? a = some { cls := .type "list", data := .seq its.toArray n }
  | .tup xs => xs.length ≤ sizeLine ∧ ∃ its : List Value, Vals xs its ∧ IsTup h a its.toArray
  | .dK kvs => kvs.length ≤ sizeLine ∧ (a == sysModules) = false ∧ ∃ vs, KV kvs vs ∧ h.DictOf (mixKind P w) a vs
  | .dT kvs => kvs.length ≤ sizeLine ∧ (a == sysModules) = false ∧ ∃ xs : List (List Key × Addr × Value),
      Paired (fun (p : List Key × V) (q : List Key × Addr × Value) => p.1 = q.1 ∧ H q.2.1 = some (.tup (p.1.map kV)) ∧ RelV p.2 q.2.2) kvs xs ∧
      ∃ o es ep, h.get? a = some o ∧ o.ExactDict ∧ o.data = .dict es ep ∧ es.toList = xs.map (entryOfKey (tupleKind (mixKind P w))) ∧ (xs.map (·.1)).Nodup
  | .set S n => h.SetOf (intKind P w) a S n
  | .ins C dx fs => H dx = some (.own a) ∧ fs.length ≤ 1000 ∧ dx ≠ a ∧ h.get? a = some (PySem.W.instObj C dx) ∧
      ∃ mA, h.Ns1 dx mA ∧ (∀ f, RelO (fs.lookup f) (mA f)) ∧ PySem.Within mA (fs.map (·.1))
  | .own _ => ∃ o, h.get? a = some o
  | .xd fs => ∃ mA, h.Ns1 a mA ∧ ∀ f, RelO (fs.lookup f) (mA f)
  | .rng lo hi => ∃ t u v, h.get? a = some { cls := .type "range", data := .fields #[.int lo t, .int hi u, .int 1 v] }
  | .frz o u => h.get? a = some o ∧ ObjOk H h a u
  | .tbl ps => h.get? a = some { cls := .none, data := .fields ps }
  | .met f x => h.get? a = some (PySem.W.methodObj (.ref f) (.ref x))
  | .ext φ => φ h ∧ (∃ o, h.get? a = some o) ∧ ∀ h1 h2 : Heap, φ h1 → (∀ o, h1.get? a = some o → h2.get? a = some o) → φ h2
def HOk (H : Hp) (h : Heap) : Prop := ∀ a o, H a = some o → ObjOk P w H h a o
end
section
variable {P : Program} {w : World} {H H' : Hp} {h h' : Heap} {a : Addr} {o : HO}
theorem ObjOk.lt (x : ObjOk P w H h a o) : a < h.objs.size := by
  cases o with
  | lst xs => obtain ⟨_, _, _, _, e⟩ := x; exact Heap.lt_size e
  | tup xs => obtain ⟨_, _, _, p⟩ := x; exact p.lt
  | dK kvs => obtain ⟨_, _, _, _, o, _, _, e, _⟩ := x; exact Heap.lt_size e
  | dT kvs => obtain ⟨_, _, _, _, o, _, _, e, _⟩ := x; exact Heap.lt_size e
  | set S n => obtain ⟨o, _, _, _, e, _⟩ := x; exact Heap.lt_size e
  | ins C dx fs => obtain ⟨_, _, _, e, _⟩ := x; exact Heap.lt_size e
  | own y => obtain ⟨_, e⟩ := x; exact Heap.lt_size e
  | xd fs => obtain ⟨_, ⟨_, _, _, e, _⟩, _⟩ := x; exact Heap.lt_size e
  | rng lo hi => obtain ⟨_, _, _, e⟩ := x; exact Heap.lt_size e
  | frz ob u => obtain ⟨e, _⟩ := x; exact Heap.lt_size e
  | tbl ps => exact Heap.lt_size (show h.get? a = some _ from x)
  | met f y => exact Heap.lt_size (show h.get? a = some _ from x)
  | ext φ => obtain ⟨_, ⟨_, e⟩, _⟩ := x; exact Heap.lt_size e
theorem Paired.mapP {α β : Type} {F G : α → β → Prop} : ∀ {l₁ : List α} {l₂ : List β}, Paired F l₁ l₂ → (∀ a b, F a b → G a b) → Paired G l₁ l₂
  | _, _, .nil, _ => .nil
  | _, _, .cons r t, f => .cons (f _ _ r) (Paired.mapP t f)
theorem ObjOk.stay (x : ObjOk P w H h a o) (k : ∀ b u, (b = a ∨ H b = some (.own a)) → h.get? b = some u → h'.get? b = some u)
    (ho : ∀ b, H b = some (.own a) → H' b = some (.own a)) (ht : ∀ b xs, H b = some (.tup xs) → H' b = some (.tup xs)) : ObjOk P w H' h' a o := by
  induction o with
  | lst xs => obtain ⟨z, its, n, r, e⟩ := x; exact ⟨z, its, n, r, k _ _ (.inl rfl) e⟩
  | tup xs => obtain ⟨z, its, r, ob, e, c⟩ := x; exact ⟨z, its, r, ob, k _ _ (.inl rfl) e, c⟩
  | dK kvs => obtain ⟨z, y, vs, r, ob, es, ep, e, c⟩ := x; exact ⟨z, y, vs, r, ob, es, ep, k _ _ (.inl rfl) e, c⟩
  | dT kvs =>
    obtain ⟨z, y, xs, r, ob, es, ep, e, c⟩ := x
    exact ⟨z, y, xs, Paired.mapP r fun p q z => ⟨z.1, ht _ _ z.2.1, z.2.2⟩, ob, es, ep, k _ _ (.inl rfl) e, c⟩
  | set S n => obtain ⟨ob, es, ep, t, e, c⟩ := x; exact ⟨ob, es, ep, t, k _ _ (.inl rfl) e, c⟩
  | ins C dx fs =>
    obtain ⟨d, z, ne, e, mA, ⟨od, es, ep, e2, c⟩, r⟩ := x
    exact ⟨ho _ d, z, ne, k _ _ (.inl rfl) e, mA, ⟨od, es, ep, k _ _ (.inr d) e2, c⟩, r⟩
  | own y => obtain ⟨ob, e⟩ := x; exact ⟨ob, k _ _ (.inl rfl) e⟩
  | xd fs => obtain ⟨mA, ⟨od, es, ep, e, c⟩, r⟩ := x; exact ⟨mA, ⟨od, es, ep, k _ _ (.inl rfl) e, c⟩, r⟩
  | rng lo hi => obtain ⟨t, u, v, e⟩ := x; exact ⟨t, u, v, k _ _ (.inl rfl) e⟩
  | frz ob u ih => obtain ⟨e, q⟩ := x; exact ⟨k _ _ (.inl rfl) e, ih q⟩
  | tbl ps =>
    have e : h.get? a = some { cls := .none, data := .fields ps } := x
    show h'.get? a = some { cls := .none, data := .fields ps }
    exact k a _ (.inl rfl) e
  | met f y =>
    have e : h.get? a = some (PySem.W.methodObj (.ref f) (.ref y)) := x
    show h'.get? a = some (PySem.W.methodObj (.ref f) (.ref y))
    exact k a _ (.inl rfl) e
  | ext φ => obtain ⟨p, ⟨o, e⟩, st⟩ := x; exact ⟨st _ _ p fun o q => k _ _ (.inl rfl) q, ⟨o, k _ _ (.inl rfl) e⟩, st⟩
theorem HOk.lt (x : HOk P w H h) (e : H a = some o) : a < h.objs.size := (x a o e).lt
theorem HOk.fresh (x : HOk P w H h) (e : h.objs.size ≤ a) : H a = none := by
  cases q : H a with
  | none => rfl
  | some u => exact absurd (Nat.lt_of_lt_of_le (x.lt q) e) (Nat.lt_irrefl _)
theorem HOk.kept (x : HOk P w H h) (k : ∀ b u, h.get? b = some u → h'.get? b = some u) : HOk P w H h' := fun a o e =>
  (x a o e).stay (fun b u _ q => k b u q) (fun _ q => q) fun _ _ q => q
theorem HOk.laid (x : HOk P w H h) (k : ∀ b u, h.get? b = some u → h'.get? b = some u) (hp : h.objs.size ≤ a) (new : ObjOk P w (upd H a o) h' a o) : HOk P w (upd H a o) h' := fun b u e => by
  have hn := x.fresh hp
  by_cases hb : b = a
  · subst hb; rw [upd_same] at e; cases e; exact new
  · rw [upd_ne hb] at e
    exact (x b u e).stay (fun c v _ q => k c v q) (fun c q => by rw [upd_ne (ne_of_none q hn)]; exact q) fun c xs q => by rw [upd_ne (ne_of_none q hn)]; exact q
end
def Rd (H : Hp) (a : Addr) (u : HO) : Prop := H a = some u ∨ ∃ o, H a = some (.frz o u)
theorem Rd.ok {P : Program} {w : World} {H : Hp} {h : Heap} {a : Addr} {u : HO} (r : Rd H a u) (x : HOk P w H h) : ObjOk P w H h a u := by
  rcases r with r | ⟨o, r⟩
  · exact x a u r
  · obtain ⟨_, q⟩ := x a _ r
    exact q
def Mut : Option HO → Prop
  | some (.lst _) => True
  | some (.dK _) => True
  | some (.dT _) => True
  | some (.set _ _) => True
  | some (.ins _ _ _) => True
  | some (.ext _) => True
  | _ => False
section
variable {P : Program} {w : World} {H : Hp} {h h' : Heap} {x e : Addr} {o' : HO}
theorem HOk.write (ok : HOk P w H h) (mu : Mut (H x)) (he : e = x ∨ H e = some (.own x)) (k : ∀ b u, b ≠ e → h.get? b = some u → h'.get? b = some u) (heo : ∃ u, h'.get? e = some u)
    (new : ObjOk P w (upd H x o') h' x o') : HOk P w (upd H x o') h' := fun b u q => by
  have nown : ∀ c y, H c = some (.own y) → c ≠ x := fun c y r z => by subst z; rw [r] at mu; exact mu
  have ntup : ∀ c xs, H c = some (.tup xs) → c ≠ x := fun c xs r z => by subst z; rw [r] at mu; exact mu
  by_cases hb : b = x
  · subst hb; rw [upd_same] at q; cases q; exact new
  · rw [upd_ne hb] at q
    by_cases hbe : b = e
    · have q' : H b = some (.own x) := by
        rcases he with z | z
        · exact absurd (hbe.trans z) hb
        · rw [hbe]; exact z
      rw [q] at q'; cases q'
      obtain ⟨v, hv⟩ := heo
      exact ⟨v, by rw [hbe]; exact hv⟩
    · refine (ok b u q).stay (fun c v hc r => k c v ?_ r) (fun c r => by rw [upd_ne (nown c b r)]; exact r) fun c xs r => by rw [upd_ne (ntup c xs r)]; exact r
      rcases hc with rfl | hc
      · exact hbe
      · rintro rfl
        rcases he with z | z
        · exact nown c b hc z
        · rw [hc] at z; cases z; exact hb rfl
end
structure Un (fs ex : List Addr) (H H' : Hp) (h h' : Heap) : Prop where
  keep : ∀ b o, h.get? b = some o → H b = none → b ∉ fs → b ∉ ex → h'.get? b = some o
  slot : ∀ b o, h.get? b = some o → H b = none → b ∈ fs → b ∉ ex → ∃ sl, h'.get? b = some { o with slots := sl }
  free : ∀ b o, h.get? b = some o → H b = none → b ∉ ex → H' b = none
  there : ∀ b o, h.get? b = some o → b ∉ ex → ∃ o', h'.get? b = some o'
  tups : ∀ b xs, H b = some (.tup xs) → H' b = some (.tup xs)
  frzs : ∀ b o u, H b = some (.frz o u) → H' b = some (.frz o u)
  tbls : ∀ b ps, H b = some (.tbl ps) → ∃ more, H' b = some (.tbl (ps ++ more))
section
variable {fs fs' ex ex' : List Addr} {H H1 H2 : Hp} {h h1 h2 h' : Heap} {a x e : Addr} {o : HO}
theorem Un.any (u : Un fs ex H H1 h h1) {b : Addr} {ob : Obj} (q : h.get? b = some ob) (n : H b = none) (hx : b ∉ ex) : ∃ sl, h1.get? b = some { ob with slots := sl } := by
  by_cases hb : b ∈ fs
  · exact u.slot b ob q n hb hx
  · exact ⟨ob.slots, u.keep b ob q n hb hx⟩
theorem Un.kept (k : ∀ b u, h.get? b = some u → h'.get? b = some u) : Un fs ex H H h h' :=
  ⟨fun b ob q _ _ _ => k b ob q, fun b ob q _ _ _ => ⟨ob.slots, k b ob q⟩, fun _ _ _ n _ => n, fun b ob q _ => ⟨ob, k b ob q⟩, fun _ _ q => q, fun _ _ _ q => q, fun _ ps q => ⟨#[], by rw [q]; simp⟩⟩
theorem Un.refl : Un fs ex H H h h := Un.kept fun _ _ q => q
theorem Un.laid (k : ∀ b u, h.get? b = some u → h'.get? b = some u) (hp : h.objs.size ≤ a) (hn : H a = none) : Un fs ex H (upd H a o) h h' where
  keep := fun b u q _ _ _ => k b u q
  slot := fun b u q _ _ _ => ⟨u.slots, k b u q⟩
  free := fun b u q n _ => by rw [upd_ne (Nat.ne_of_lt (Nat.lt_of_lt_of_le (Heap.lt_size q) hp))]; exact n
  there := fun b u q _ => ⟨u, k b u q⟩
  tups := fun b xs q => by rw [upd_ne (ne_of_none q hn)]; exact q
  frzs := fun b u xs q => by rw [upd_ne (ne_of_none q hn)]; exact q
  tbls := fun b ps q => ⟨#[], by rw [upd_ne (ne_of_none q hn), q]; simp⟩
theorem Un.write (mu : Mut (H x)) (he : e = x ∨ H e = some (.own x)) (k : ∀ b u, b ≠ e → h.get? b = some u → h'.get? b = some u) (heo : ∃ u, h'.get? e = some u) : Un fs ex H (upd H x o) h h' := by
  have hx : ∀ b, H b = none → b ≠ x := fun b n z => by subst z; rw [n] at mu; exact mu
  have hb : ∀ b, H b = none → b ≠ e := fun b n z => by
    subst z
    rcases he with r | r
    · exact hx b n r
    · rw [n] at r; cases r
  have hm : ∀ b u, H b = some u → ¬ Mut (some u) → b ≠ x := fun b u q nm z => by subst z; rw [q] at mu; exact nm mu
  refine ⟨fun b u q n _ _ => k b u (hb b n) q, fun b u q n _ _ => ⟨u.slots, k b u (hb b n) q⟩, fun b u q n _ => by rw [upd_ne (hx b n)]; exact n, fun b u q _ => ?_,
    fun b xs q => by rw [upd_ne (hm b _ q fun z => z)]; exact q, fun b u xs q => by rw [upd_ne (hm b _ q fun z => z)]; exact q, fun b ps q => ⟨#[], by rw [upd_ne (hm b _ q fun z => z), q]; simp⟩⟩
  by_cases hbe : b = e
  · subst hbe; exact heo
  · exact ⟨u, k b u hbe q⟩
end
def trk (h : Heap) (H : Hp) : List Addr := (List.range h.objs.size).filter fun a => (H a).isSome
def hidT (h : Heap) (H : Hp) : Heap := PySem.W.hideAll h (trk h H)
theorem hidT_size (h : Heap) (H : Hp) : (hidT h H).objs.size = h.objs.size := PySem.W.hideAll_size _ _
theorem hidT_get {h : Heap} {H : Hp} {b : Addr} {o : Obj} (e : h.get? b = some o) (n : H b = none) : (hidT h H).get? b = some o :=
  PySem.W.hideAll_get _ e fun hm => by
    have q : (H b).isSome = true := (List.mem_filter.mp hm).2
    rw [n] at q; simp at q
theorem of_hidT {h : Heap} {H : Hp} {b : Addr} {o : Obj} (e : (hidT h H).get? b = some o) : h.get? b = some o ∧ H b = none := by
  have e' : h.get? b = some o := PySem.W.of_hideAll (trk h H) e
  refine ⟨e', ?_⟩
  cases q : H b with
  | none => rfl
  | some x =>
    have hm : b ∈ trk h H := List.mem_filter.mpr ⟨List.mem_range.mpr (Heap.lt_size e'), by simp [q]⟩
    have z : (hidT h H).get? b = none := PySem.W.hideAll_none (trk h H) hm
    rw [z] at e; cases e
end L2
namespace L2
open PySem PySem.Spec PyProof.Rows
structure Mod (K : PySem.W.Frag) (mg : Str → Option Value) (base : Heap) : Prop where
  kin : K.In base
  glob : base.Ns mainGlobals mg
  blt : ∃ mb, base.Ns builtinsNs mb ∧ ∀ x : Str, x ≠ "__name__" → mb x = bootBuiltins x
  nolimit : base.NoLimit
structure Cx where
  prog : Program
  w : World
  K : PySem.W.Frag
  mg : Str → Option Value
  base : Heap
  A : Around
  N : List Str
  s₀ : Shared
  H₀ : Hp
  env : Env
  outer : List Env
  stack : List Env
  ex : List Addr
  fn : Str → Bool
  calm : Bool
  pn : List (Addr × Obj)
  xe : Value → Shared → Prop
def frs (l : List Env) : List Addr := l.filterMap (·.frame)
abbrev Cx.fs (X : Cx) : List Addr := frs X.outer
def Vis (sc : Scope) (x : Str) : Prop := sc.names.lookup x = some .local ∨ sc.names.lookup x = some .cell ∨ sc.names.lookup x = some .free
def Loc (sc : Scope) (x : Str) : Prop := sc.names.lookup x = some .local ∨ sc.names.lookup x = some .cell
def Look (env : Env) (h : Heap) (m : Str → Option Value) (x : Str) (u : Value) : Prop :=
  (env.kindOf x = some .local ∧ m x = some u) ∨ ((env.kindOf x = some .cell ∨ env.kindOf x = some .free) ∧ ∃ c, env.cells.lookup x = some c ∧ h.IsCell c (some u))
structure Cx.Ok (X : Cx) : Prop where
  mod : Mod X.K X.mg X.base
  kind : X.env.scope.kind = .function
  glob : X.env.globals = mainGlobals
  blt : X.env.builtins = builtinsNs
  above : X.s₀.heap.objs.size ≤ X.env.locals
  inj : ∀ x y c, X.env.cells.lookup x = some c → X.env.cells.lookup y = some c → x = y
  has : ∀ x, (X.env.kindOf x = some .cell ∨ X.env.kindOf x = some .free) → ∃ c, X.env.cells.lookup x = some c
  cab : ∀ x c, X.fn x = true → X.env.cells.lookup x = some c → X.s₀.heap.objs.size ≤ c
  hd : X.calm = true → X.A.handled = none
  frames : X.A.frames = some X.stack
  stk : X.stack = X.outer ∨ (X.stack = X.env :: X.outer ∧ X.env.frame = some X.env.locals)
  exf : ∀ b ∈ X.ex, b ≠ X.env.locals ∧ ∀ x c, X.env.cells.lookup x = some c → c ≠ b
  bs : ∀ b o, X.base.get? b = some o → X.s₀.heap.get? b = some o ∧ X.H₀ b = none
  bsz : X.base.objs.size ≤ X.s₀.heap.objs.size
  noex : ∀ b o, X.base.get? b = some o → b ∉ X.ex
  exfs : ∀ b ∈ X.ex, b ∉ X.fs
  funs : X.s₀.heap.FunFrames X.base X.outer
  frf : ∀ b ∈ X.fs, X.H₀ b = none
structure Inv (X : Cx) (pins : List (Addr × Obj)) (σ : List (Option V)) (H : Hp) (s : Shared) : Prop where
  ok : X.Ok
  os : s.os = X.s₀.os
  bare : AllBare s.gens
  base : Un X.fs X.ex X.H₀ H X.s₀.heap s.heap
  loc : ∃ m, s.heap.Ns X.env.locals m ∧ ∀ (i : Nat) (x : Str) (v : V), X.N[i]? = some x → σ[i]? = some (some v) → Vis X.env.scope x → ∃ u, RelV v u ∧ Look X.env s.heap m x u
  cell : ∀ x c, X.env.cells.lookup x = some c → ∃ v, s.heap.IsCell c v
  free : H X.env.locals = none
  freeC : ∀ x c, X.env.cells.lookup x = some c → H c = none
  pin : ∀ p ∈ X.pn ++ pins, s.heap.get? p.1 = some p.2 ∧ H p.1 = none ∧ p.1 ≠ X.env.locals ∧ p.1 ∉ X.fs ∧ ∀ v, p.2.data ≠ .cell v
  hok : HOk X.prog X.w H s.heap
  len : σ.length = X.N.length
section
variable {X : Cx} {pins : List (Addr × Obj)} {σ : List (Option V)} {H H' : Hp} {s : Shared} {h' : Heap}
theorem Cx.Ok.nofr (ok : X.Ok) {b : Addr} {o : Obj} (e : X.base.get? b = some o) : b ∉ X.fs := fun hb => by
  have := (ok.funs.mem hb).1
  rw [e] at this; cases this
theorem Inv.bs (I : Inv X pins σ H s) : ∀ b o, X.base.get? b = some o → s.heap.get? b = some o ∧ H b = none := fun b o e =>
  ⟨I.base.keep b o (I.ok.bs b o e).1 (I.ok.bs b o e).2 (I.ok.nofr e) (I.ok.noex b o e), I.base.free b o (I.ok.bs b o e).1 (I.ok.bs b o e).2 (I.ok.noex b o e)⟩
theorem Inv.bk (I : Inv X pins σ H s) : ∀ b o, X.base.get? b = some o → s.heap.get? b = some o := fun b o e => (I.bs b o e).1
theorem Inv.mod (I : Inv X pins σ H s) : Mod X.K X.mg X.base := I.ok.mod
theorem Inv.kIn (I : Inv X pins σ H s) : X.K.In s.heap := I.ok.mod.kin.keeps I.bk
theorem Inv.lt (I : Inv X pins σ H s) : X.env.locals < s.heap.objs.size := let ⟨_, hn, _⟩ := I.loc; hn.lt
theorem Inv.sz (I : Inv X pins σ H s) : X.s₀.heap.objs.size ≤ s.heap.objs.size := Nat.le_trans I.ok.above (Nat.le_of_lt I.lt)
theorem Inv.nofs (I : Inv X pins σ H s) {a : Addr} (h : s.heap.objs.size ≤ a) : a ∉ X.fs := fun hb => by
  obtain ⟨_, o, ho, _⟩ := I.ok.funs.mem hb
  exact absurd (Nat.lt_of_lt_of_le (Heap.lt_size ho) (Nat.le_trans I.sz h)) (Nat.lt_irrefl _)
theorem Inv.cne (I : Inv X pins σ H s) : ∀ x c, X.env.cells.lookup x = some c → c ≠ X.env.locals := fun x c e z => by
  obtain ⟨v, o, ho, hd⟩ := I.cell x c e
  obtain ⟨m, ⟨o', es, ep, ho', hd', _⟩, _⟩ := I.loc
  rw [z, ho'] at ho; cases ho; rw [hd'] at hd; cases hd
theorem Inv.funs (I : Inv X pins σ H s) : s.heap.FunFrames X.base X.outer := by
  have all : ∀ (l : List Env), (∀ b ∈ frs l, b ∈ X.fs) → X.s₀.heap.FunFrames X.base l → s.heap.FunFrames X.base l := by
    intro l
    induction l with
    | nil => intro _ _; trivial
    | cons env r ih =>
      intro hs hl
      obtain ⟨hk, ⟨L, o, hf, hn, ho, hd⟩, hr⟩ := hl
      have hL : L ∈ X.fs := hs L (by unfold frs; rw [List.filterMap_cons, hf]; exact List.mem_cons_self)
      obtain ⟨sl, e⟩ := I.base.slot L o ho (I.ok.frf L hL) hL fun z => I.ok.exfs L z hL
      exact ⟨hk, ⟨L, _, hf, hn, e, hd⟩, ih (fun b hb => hs b (by unfold frs; rw [List.filterMap_cons, hf]; exact List.mem_cons_of_mem _ hb)) hr⟩
  exact all X.outer (fun _ hb => hb) I.ok.funs
theorem Inv.stack (I : Inv X pins σ H s) : s.heap.FunFrames X.base X.stack := by
  rcases I.ok.stk with e | ⟨e, hf⟩
  · rw [e]; exact I.funs
  · rw [e]
    obtain ⟨m, hn, _⟩ := I.loc
    refine .cons (by rw [I.ok.kind]; decide) hf hn ?_ I.funs
    exact Heap.get?_none_of_le (Nat.le_trans I.ok.bsz I.ok.above)
theorem Inv.stkSub (I : Inv X pins σ H s) : ∀ b ∈ frs X.stack, b ∈ X.env.locals :: X.fs := fun b hb => by
  rcases I.ok.stk with e | ⟨e, hf⟩
  · rw [e] at hb; exact List.mem_cons_of_mem _ hb
  · rw [e] at hb
    unfold frs at hb
    rw [List.filterMap_cons, hf] at hb
    exact hb
theorem Inv.stkFree (I : Inv X pins σ H s) : ∀ b ∈ frs X.stack, H b = none := fun b hb => by
  rcases List.mem_cons.mp (I.stkSub b hb) with e | hb
  · rw [e]; exact I.free
  · obtain ⟨_, o, ho, _⟩ := I.ok.funs.mem hb
    exact I.base.free b o ho (I.ok.frf b hb) fun z => I.ok.exfs b z hb
theorem Inv.step {g' : Array GenState} {t' : Nat} {d' : Drawn} {ch : List Addr} (I : Inv X pins σ H s)
    (hch : ∀ b ∈ ch, (b ∈ X.ex ∨ X.s₀.heap.objs.size ≤ b) ∧ b ≠ X.env.locals ∧ (∀ x c, X.env.cells.lookup x = some c → c ≠ b) ∧ ∀ p ∈ X.pn ++ pins, p.1 ≠ b)
    (keep : ∀ b o, b ≠ X.env.locals → b ∉ X.fs → b ∉ ch → s.heap.get? b = some o → H b = none → h'.get? b = some o)
    (slot : ∀ b o, b ≠ X.env.locals → b ∈ X.fs → b ∉ ch → s.heap.get? b = some o → H b = none → ∃ sl, h'.get? b = some { o with slots := sl }) (free : ∀ b o, b ∉ ch → s.heap.get? b = some o → H b = none → H' b = none)
    (there : ∀ b o, b ∉ ch → s.heap.get? b = some o → ∃ o', h'.get? b = some o')
    (tups : ∀ b xs, H b = some (.tup xs) → H' b = some (.tup xs)) (frzs : ∀ b o u, H b = some (.frz o u) → H' b = some (.frz o u)) (tbls : ∀ b ps, H b = some (.tbl ps) → ∃ more, H' b = some (.tbl (ps ++ more)))
    (ns : ∀ m, s.heap.Ns X.env.locals m → h'.Ns X.env.locals m) (hok : HOk X.prog X.w H' h') (hg : AllBare g') :
    Inv X pins σ H' { s with heap := h', gens := g', drawn := d', toks := t' } := by
  have neL : ∀ b o, X.s₀.heap.get? b = some o → b ≠ X.env.locals := fun b o e => Nat.ne_of_lt (Nat.lt_of_lt_of_le (Heap.lt_size e) I.ok.above)
  have neC : ∀ b o, X.s₀.heap.get? b = some o → b ∉ X.ex → b ∉ ch := fun b o e hx hb => by
    rcases (hch b hb).1 with z | z
    · exact hx z
    · exact absurd (Nat.lt_of_lt_of_le (Heap.lt_size e) z) (Nat.lt_irrefl _)
  have cellK : ∀ x c, X.env.cells.lookup x = some c → ∀ v, s.heap.IsCell c v → h'.IsCell c v := fun x c e v ⟨o, ho, hd⟩ => by
    have nch : c ∉ ch := fun z => (hch c z).2.2.1 x c e rfl
    by_cases hc : c ∈ X.fs
    · obtain ⟨sl, q⟩ := slot c o (I.cne x c e) hc nch ho (I.freeC x c e)
      exact ⟨_, q, hd⟩
    · exact ⟨o, keep c o (I.cne x c e) hc nch ho (I.freeC x c e), hd⟩
  refine ⟨I.ok, I.os, hg, ⟨fun b o e n hb hx => ?_, fun b o e n hb hx => ?_, fun b o e n hx => ?_, fun b o e hx => ?_, fun b xs e => tups b xs (I.base.tups b xs e), fun b o xs e => frzs b o xs (I.base.frzs b o xs e), fun b ps e => ?_⟩, ?_, fun x c e => ?_, ?_, fun x c e => ?_, fun p hp => ?_, hok, I.len⟩
  · exact keep b o (neL b o e) hb (neC b o e hx) (I.base.keep b o e n hb hx) (I.base.free b o e n hx)
  · obtain ⟨sl, e1⟩ := I.base.slot b o e n hb hx
    obtain ⟨sl', e2⟩ := slot b _ (neL b o e) hb (neC b o e hx) e1 (I.base.free b o e n hx)
    exact ⟨sl', e2⟩
  · obtain ⟨o', e1⟩ := I.base.there b o e hx
    exact free b o' (neC b o e hx) e1 (I.base.free b o e n hx)
  · obtain ⟨o', e1⟩ := I.base.there b o e hx
    exact there b o' (neC b o e hx) e1
  · obtain ⟨m1, e1⟩ := I.base.tbls b ps e
    obtain ⟨m2, e2⟩ := tbls b _ e1
    exact ⟨m1 ++ m2, by rw [e2, Array.append_assoc]⟩
  · obtain ⟨m, hn, hl⟩ := I.loc
    refine ⟨m, ns m hn, fun i x v e1 e2 e3 => ?_⟩
    obtain ⟨u, r, l⟩ := hl i x v e1 e2 e3
    refine ⟨u, r, ?_⟩
    rcases l with l | ⟨k, c, e, z⟩
    · exact .inl l
    · exact .inr ⟨k, c, e, cellK x c e _ z⟩
  · obtain ⟨v, z⟩ := I.cell x c e
    exact ⟨v, cellK x c e v z⟩
  · obtain ⟨m, ⟨o, _, _, ho, _⟩, _⟩ := I.loc
    exact free _ o (fun z => (hch _ z).2.1 rfl) ho I.free
  · obtain ⟨v, o, ho, hd⟩ := I.cell x c e
    exact free c o (fun z => (hch c z).2.2.1 x c e rfl) ho (I.freeC x c e)
  · obtain ⟨e, n, ne, nf, d⟩ := I.pin p hp
    have nch : p.1 ∉ ch := fun z => (hch p.1 z).2.2.2 p hp rfl
    exact ⟨keep p.1 p.2 ne nf nch e n, free p.1 p.2 nch e n, ne, nf, d⟩
theorem Inv.un {t' : Nat} (I : Inv X pins σ H s) (u : Un X.fs [] H H' s.heap h') (hok : HOk X.prog X.w H' h') : Inv X pins σ H' { s with heap := h', toks := t' } := by
  obtain ⟨m, ⟨o, es, ep, ho, r⟩, _⟩ := id I.loc
  obtain ⟨sl, hL⟩ := u.any ho I.free (by simp)
  exact I.step (g' := s.gens) (d' := s.drawn) (ch := []) (fun _ z => nomatch z) (fun b o _ hb _ e n => u.keep b o e n hb (by simp)) (fun b o _ hb _ e n => u.slot b o e n hb (by simp)) (fun b o _ e n => u.free b o e n (by simp)) (fun b o _ e => u.there b o e (by simp)) u.tups u.frzs u.tbls (fun m' hm => by
    obtain ⟨o', es', ep', ho', r'⟩ := hm
    rw [ho] at ho'; cases ho'
    exact ⟨_, es', ep', hL, r'⟩) hok I.bare
theorem Inv.call {g' : Array GenState} {t' : Nat} {d' : Drawn} {ch : List Addr} (I : Inv X pins σ H s) (u : Un (frs X.stack) ch H H' s.heap h') (hok : HOk X.prog X.w H' h') (hg : AllBare g')
    (hch : ∀ b ∈ ch, (b ∈ X.ex ∨ X.s₀.heap.objs.size ≤ b) ∧ b ≠ X.env.locals ∧ (∀ x c, X.env.cells.lookup x = some c → c ≠ b) ∧ ∀ p ∈ X.pn ++ pins, p.1 ≠ b) :
    Inv X pins σ H' { s with heap := h', gens := g', drawn := d', toks := t' } := by
  obtain ⟨m, ⟨o, es, ep, ho, r⟩, _⟩ := id I.loc
  obtain ⟨sl, hL⟩ := u.any ho I.free fun z => (hch _ z).2.1 rfl
  exact I.step (ch := ch) hch (fun b o hL hb hc e n => u.keep b o e n (fun z => (List.mem_cons.mp (I.stkSub b z)).elim hL hb) hc) (fun b o _ _ hc e n => u.any e n hc) (fun b o hc e n => u.free b o e n hc) (fun b o hc e => u.there b o e hc) u.tups u.frzs u.tbls (fun m' hm => by
    obtain ⟨o', es', ep', ho', r'⟩ := hm
    rw [ho] at ho'; cases ho'
    exact ⟨_, es', ep', hL, r'⟩) hok hg
theorem Inv.turned {t' : Nat} {it : Addr} (I : Inv X pins σ H s) (k : ∀ b o, b ≠ it → s.heap.get? b = some o → h'.get? b = some o) (hn : H it = none) (hL : it ≠ X.env.locals)
    (h1 : it ∈ X.ex ∨ X.s₀.heap.objs.size ≤ it) (h2 : ∀ x c, X.env.cells.lookup x = some c → c ≠ it) (h3 : ∀ p ∈ X.pn ++ pins, p.1 ≠ it) : Inv X pins σ H { s with heap := h', toks := t' } := by
  have nit : ∀ b u, H b = some u → b ≠ it := fun b u e z => by rw [z, hn] at e; cases e
  refine I.step (g' := s.gens) (d' := s.drawn) (ch := [it]) (fun b hb => ?_) (fun b o _ _ hc e _ => k b o (fun z => hc (by simp [z])) e) (fun b o _ _ hc e _ => ⟨o.slots, k b o (fun z => hc (by simp [z])) e⟩) (fun _ _ _ _ n => n)
    (fun b o hc e => ⟨o, k b o (fun z => hc (by simp [z])) e⟩) (fun _ _ e => e) (fun _ _ _ e => e) (fun b ps e => ⟨#[], by rw [e]; simp⟩) (fun m hm => ?_) (fun b u e => ?_) I.bare
  · have e : b = it := by simpa using hb
    subst e
    exact ⟨h1, hL, h2, h3⟩
  · obtain ⟨o, es, ep, ho, r⟩ := hm
    exact ⟨o, es, ep, k _ o (Ne.symm hL) ho, r⟩
  · refine (I.hok b u e).stay (fun c v hc q => k c v ?_ q) (fun _ q => q) fun _ _ q => q
    rcases hc with z | z
    · rw [z]; exact nit b u e
    · exact nit c _ z
theorem Inv.tok (I : Inv X pins σ H s) (t : Nat) : Inv X pins σ H { s with toks := t } := I.un (h' := s.heap) (t' := t) Un.refl I.hok
theorem Inv.kept {t' : Nat} (I : Inv X pins σ H s) (k : ∀ b u, s.heap.get? b = some u → h'.get? b = some u) : Inv X pins σ H { s with heap := h', toks := t' } := I.un (Un.kept k) (I.hok.kept k)
theorem Inv.laid {a : Addr} {o : HO} {t' : Nat} (I : Inv X pins σ H s) (k : ∀ b u, s.heap.get? b = some u → h'.get? b = some u) (hp : s.heap.objs.size ≤ a) (new : ObjOk X.prog X.w (upd H a o) h' a o) :
    Inv X pins σ (upd H a o) { s with heap := h', toks := t' } := I.un (Un.laid k hp (I.hok.fresh hp)) (I.hok.laid k hp new)
theorem Inv.write {x e : Addr} {o : HO} {t' : Nat} (I : Inv X pins σ H s) (mu : Mut (H x)) (he : e = x ∨ H e = some (.own x)) (k : ∀ b u, b ≠ e → s.heap.get? b = some u → h'.get? b = some u) (heo : ∃ u, h'.get? e = some u)
    (new : ObjOk X.prog X.w (upd H x o) h' x o) : Inv X pins σ (upd H x o) { s with heap := h', toks := t' } := I.un (Un.write mu he k heo) (I.hok.write mu he k heo new)
theorem Inv.pins_of {pins' : List (Addr × Obj)} (I : Inv X pins σ H s) (h : ∀ p ∈ pins', s.heap.get? p.1 = some p.2 ∧ H p.1 = none ∧ p.1 ≠ X.env.locals ∧ p.1 ∉ X.fs ∧ ∀ v, p.2.data ≠ .cell v) : Inv X pins' σ H s :=
  ⟨I.ok, I.os, I.bare, I.base, I.loc, I.cell, I.free, I.freeC, fun p hp => (List.mem_append.mp hp).elim (fun z => I.pin p (List.mem_append_left _ z)) (h p), I.hok, I.len⟩
theorem nodup_ix {N : List Str} (hN : N.Nodup) {i j : Nat} {x : Str} (a : N[i]? = some x) (b : N[j]? = some x) : i = j := by
  obtain ⟨h1, e1⟩ := List.getElem?_eq_some_iff.mp a
  obtain ⟨h2, e2⟩ := List.getElem?_eq_some_iff.mp b
  exact (List.getElem_inj hN).mp (e1.trans e2.symm)
theorem store_ok2 {M : Model} {A : Around} {E : Value → Shared → Prop} {i : Nat} {x : Str} {v : V} {u : Value} {Q : Unit → Shared → Prop} (I : Inv X pins σ H s) (hN : X.N.Nodup) (hi : X.N[i]? = some x) (hx : Loc X.env.scope x) (r : RelV v u)
    (h : ∀ s', Inv X pins (σ.set i (some v)) H s' → (∃ a, Heap.SameBut a s.heap s'.heap ∧ (a = X.env.locals ∨ X.env.cells.lookup x = some a)) → Q () s') (hf : X.fn x = true ∨ X.env.scope.names.lookup x = some .local := by first | exact .inl rfl | exact .inr rfl | assumption) : wpAny M A (storeName X.env x u) Q E s := by
  obtain ⟨m, hn, hl⟩ := id I.loc
  have hcls : (X.env.scope.kind == .class || (X.env.scope.kind == .module && X.env.locals != X.env.globals)) = false := by rw [I.ok.kind]; rfl
  have hiσ : i < σ.length := by rw [I.len]; exact (List.getElem?_eq_some_iff.mp hi).1
  have cne := I.cne
  have tracked : ∀ {a : Addr} {h' : Heap}, (∃ o, s.heap.get? a = some o ∧ H a = none) → Heap.SameBut a s.heap h' → HOk X.prog X.w H h' := fun {a h'} ha hs b ob e => by
    obtain ⟨_, _, hfree⟩ := ha
    refine (I.hok b ob e).stay (fun c w' hc q => (hs.2 c ?_).trans q) (fun _ q => q) fun _ _ q => q
    rintro rfl
    rcases hc with rfl | hc
    · rw [hfree] at e; cases e
    · rw [hfree] at hc; cases hc
  rcases hx with hk | hk
  · refine wpAny_storeName_local hk hn (fun h' hn' hs => ?_) hcls
    obtain ⟨oL, _, _, hoL, _⟩ := id hn
    refine h _ ⟨I.ok, I.os, I.bare, ⟨fun b o e n hb hx => ?_, fun b o e n hb hx => ?_, I.base.free, fun b o e hx => ?_, I.base.tups, I.base.frzs, I.base.tbls⟩, ⟨_, hn', fun j y v' e1 e2 e3 => ?_⟩, fun y c e => ?_, I.free, I.freeC, fun p hp => ?_, tracked ⟨oL, hoL, I.free⟩ hs, by simpa using I.len⟩ ⟨_, hs, .inl rfl⟩
    · exact (hs.2 b (Nat.ne_of_lt (Nat.lt_of_lt_of_le (Heap.lt_size e) I.ok.above))).trans (I.base.keep b o e n hb hx)
    · obtain ⟨sl, e1⟩ := I.base.slot b o e n hb hx
      exact ⟨sl, (hs.2 b (Nat.ne_of_lt (Nat.lt_of_lt_of_le (Heap.lt_size e) I.ok.above))).trans e1⟩
    · obtain ⟨o', e1⟩ := I.base.there b o e hx
      exact ⟨o', (hs.2 b (Nat.ne_of_lt (Nat.lt_of_lt_of_le (Heap.lt_size e) I.ok.above))).trans e1⟩
    · by_cases hj : j = i
      · subst hj
        rw [hi] at e1; cases e1
        rw [List.getElem?_set_self hiσ] at e2
        cases e2
        exact ⟨u, r, .inl ⟨hk, by simp⟩⟩
      · rw [List.getElem?_set_ne (Ne.symm hj)] at e2
        obtain ⟨u', r', q⟩ := hl j y v' e1 e2 e3
        refine ⟨u', r', ?_⟩
        rcases q with ⟨k, e⟩ | ⟨k, c, e, z⟩
        · refine .inl ⟨k, ?_⟩
          have : y ≠ x := fun e => hj (nodup_ix hN e1 (e ▸ hi))
          simp [this, e]
        · exact .inr ⟨k, c, e, z.sameBut hs (cne y c e)⟩
    · obtain ⟨w', z⟩ := I.cell y c e
      exact ⟨w', z.sameBut hs (cne y c e)⟩
    · obtain ⟨e, n, ne, nf, d⟩ := I.pin p hp
      exact ⟨(hs.2 p.1 ne).trans e, n, ne, nf, d⟩
  · have hfn : X.fn x = true := by
      rcases hf with z | z
      · exact z
      · rw [z] at hk; cases hk
    obtain ⟨c, hc⟩ := I.ok.has x (.inl hk)
    obtain ⟨w', z⟩ := I.cell x c hc
    refine wpAny_storeName_cell I.ok.kind hk hc z (fun h' hc' hs => ?_)
    obtain ⟨oc, hoc, hocd⟩ := id z
    refine h { s with heap := h' } ⟨I.ok, I.os, I.bare, ⟨fun b o e n hb hx => ?_, fun b o e n hb hx => ?_, I.base.free, fun b o e hx => ?_, I.base.tups, I.base.frzs, I.base.tbls⟩, ⟨m, hn.sameBut hs (Ne.symm (cne x c hc)), fun j y v' e1 e2 e3 => ?_⟩, fun y c' e => ?_, I.free, I.freeC, fun p hp => ?_, tracked ⟨oc, hoc, I.freeC x c hc⟩ hs, by simpa using I.len⟩ ⟨c, hs, .inr hc⟩
    · exact (hs.2 b (Nat.ne_of_lt (Nat.lt_of_lt_of_le (Heap.lt_size e) (I.ok.cab x c hfn hc)))).trans (I.base.keep b o e n hb hx)
    · obtain ⟨sl, e1⟩ := I.base.slot b o e n hb hx
      exact ⟨sl, (hs.2 b (Nat.ne_of_lt (Nat.lt_of_lt_of_le (Heap.lt_size e) (I.ok.cab x c hfn hc)))).trans e1⟩
    · obtain ⟨o', e1⟩ := I.base.there b o e hx
      exact ⟨o', (hs.2 b (Nat.ne_of_lt (Nat.lt_of_lt_of_le (Heap.lt_size e) (I.ok.cab x c hfn hc)))).trans e1⟩
    · by_cases hj : j = i
      · subst hj
        rw [hi] at e1; cases e1
        rw [List.getElem?_set_self hiσ] at e2
        cases e2
        exact ⟨u, r, .inr ⟨.inl hk, c, hc, hc'⟩⟩
      · rw [List.getElem?_set_ne (Ne.symm hj)] at e2
        obtain ⟨u', r', q⟩ := hl j y v' e1 e2 e3
        refine ⟨u', r', ?_⟩
        rcases q with q | ⟨k, c', e, z'⟩
        · exact .inl q
        · refine .inr ⟨k, c', e, z'.sameBut hs ?_⟩
          rintro rfl
          exact hj (nodup_ix hN e1 (I.ok.inj _ _ _ e hc ▸ hi))
    · by_cases hcc : c' = c
      · subst hcc; exact ⟨_, hc'⟩
      · obtain ⟨w2, z2⟩ := I.cell y c' e
        exact ⟨w2, z2.sameBut hs hcc⟩
    · obtain ⟨e, n, ne, nf, d⟩ := I.pin p hp
      refine ⟨(hs.2 p.1 ?_).trans e, n, ne, nf, d⟩
      intro q
      rw [q, hoc] at e
      have q' : oc = p.2 := Option.some.inj e
      exact d w' (by rw [← q']; exact hocd)
theorem store_ok {M : Model} {A : Around} {E : Value → Shared → Prop} {i : Nat} {x : Str} {v : V} {u : Value} {Q : Unit → Shared → Prop} (I : Inv X pins σ H s) (hN : X.N.Nodup) (hi : X.N[i]? = some x) (hx : Loc X.env.scope x) (r : RelV v u)
    (h : ∀ s', Inv X pins (σ.set i (some v)) H s' → Q () s') (hf : X.fn x = true ∨ X.env.scope.names.lookup x = some .local := by first | exact .inl rfl | exact .inr rfl | assumption) : wpAny M A (storeName X.env x u) Q E s :=
  store_ok2 I hN hi hx r (fun s' I' _ => h s' I') hf
theorem Inv.call' {s' : Shared} {ch : List Addr} (I : Inv X pins σ H s) (ho : s'.os = s.os) (u : Un (frs X.stack) ch H H' s.heap s'.heap) (hok : HOk X.prog X.w H' s'.heap) (hg : AllBare s'.gens)
    (hch : ∀ b ∈ ch, (b ∈ X.ex ∨ X.s₀.heap.objs.size ≤ b) ∧ b ≠ X.env.locals ∧ (∀ x c, X.env.cells.lookup x = some c → c ≠ b) ∧ ∀ p ∈ X.pn ++ pins, p.1 ≠ b) : Inv X pins σ H' s' := by
  obtain ⟨h', g', d', t', o'⟩ := s'
  have e : o' = s.os := ho
  subst e
  exact I.call (g' := g') (t' := t') (d' := d') u hok hg hch
end
abbrev XK := Value → Option Addr → Hp → Prop
abbrev St := List (Option V)
abbrev VK := V → Hp → Prop
abbrev TE := St → Hp → VK → Prop
abbrev TT := St → Hp → (Bool → Hp → Prop) → Prop
abbrev TA := St → Hp → (List V → Hp → Prop) → Prop
structure Ends where
  nx : St → Hp → Prop
  rt : VK
  bk : St → Hp → Prop := fun _ _ => False
  ct : St → Hp → Prop := fun _ _ => False
abbrev TS := Ends → St → Hp → Prop
def EP (X : Cx) (pins : List (Addr × Obj)) (σ : St) (Q : VK) (u : Value) (s' : Shared) : Prop := ∃ v H', Inv X pins σ H' s' ∧ RelV v u ∧ Q v H'
def TP (X : Cx) (pins : List (Addr × Obj)) (σ : St) (Q : Bool → Hp → Prop) (b : Bool) (s' : Shared) : Prop := ∃ H', Inv X pins σ H' s' ∧ Q b H'
def AP (X : Cx) (pins : List (Addr × Obj)) (σ : St) (Q : List V → Hp → Prop) (us : List Value) (s' : Shared) : Prop := ∃ vs H', Inv X pins σ H' s' ∧ Vals vs us ∧ Q vs H'
def SP (X : Cx) (pins : List (Addr × Obj)) (D : Ends) (f : Flow) (s' : Shared) : Prop :=
  match f with
  | .next => ∃ σ' H', Inv X pins σ' H' s' ∧ D.nx σ' H'
  | .brk => ∃ σ' H', Inv X pins σ' H' s' ∧ D.bk σ' H'
  | .cont => ∃ σ' H', Inv X pins σ' H' s' ∧ D.ct σ' H'
  | .ret u => ∃ v σ' H', Inv X pins σ' H' s' ∧ RelV v u ∧ D.rt v H'
def PE (X : Cx) (e : Expr) (t : TE) : Prop :=
  ∀ (pins : List (Addr × Obj)) (s : Shared) (σ : St) (H : Hp) (Q : VK), Inv X pins σ H s → t σ H Q → wpAny (model X.prog X.w) X.A (eval e X.env) (EP X pins σ Q) X.xe s
def PT (X : Cx) (e : Expr) (t : TT) : Prop :=
  ∀ (pins : List (Addr × Obj)) (s : Shared) (σ : St) (H : Hp) (Q : Bool → Hp → Prop), Inv X pins σ H s → t σ H Q → wpAny (model X.prog X.w) X.A (isTrue e X.env (eval e X.env)) (TP X pins σ Q) X.xe s
def PW (X : Cx) (e : Expr) (t : TT) : Prop :=
  ∀ (whole : Sem Value) (pins : List (Addr × Obj)) (s : Shared) (σ : St) (H : Hp) (Q : Bool → Hp → Prop), Inv X pins σ H s → t σ H Q → wpAny (model X.prog X.w) X.A (isTrue e X.env whole) (TP X pins σ Q) X.xe s
theorem PW.pt {X : Cx} {e : Expr} {t : TT} (h : PW X e t) : PT X e t := h _
def PA (X : Cx) (es : List Expr) (t : TA) : Prop :=
  ∀ (pos : Pos) (pins : List (Addr × Obj)) (s : Shared) (σ : St) (H : Hp) (Q : List V → Hp → Prop), Inv X pins σ H s → t σ H Q → wpAny (model X.prog X.w) X.A (spliced (backTo pos (starEach es X.env))) (AP X pins σ Q) X.xe s
def PS (X : Cx) (st : Stmt) (t : TS) : Prop :=
  ∀ (pins : List (Addr × Obj)) (s : Shared) (σ : St) (H : Hp) (D : Ends), Inv X pins σ H s → t D σ H → wpAny (model X.prog X.w) X.A (exec st X.env) (SP X pins D) X.xe s
def PSs (X : Cx) (st : List Stmt) (t : TS) : Prop :=
  ∀ (pins : List (Addr × Obj)) (s : Shared) (σ : St) (H : Hp) (D : Ends), Inv X pins σ H s → t D σ H → wpAny (model X.prog X.w) X.A (execs st X.env) (SP X pins D) X.xe s
theorem thn {α : Type} {t : Sem α} {Q Q' : α → Shared → Prop} {M : Model} {A : Around} {E : Value → Shared → Prop} {s : Shared} (h : wpAny M A t Q E s) (hQ : ∀ a s, Q a s → Q' a s) : wpAny M A t Q' E s := wpAny_mono h hQ fun _ _ x => x
end L2
namespace L2
open PySem PySem.Spec PyProof.Rows
section
variable {X : Cx}
def tVar (i : Nat) : TE := fun σ H Q => ∃ v, σ[i]? = some (some v) ∧ Q v H
def tC (v : V) : TE := fun _ H Q => Q v H
theorem pe_var {i : Nat} {x : Str} {pos : Pos} (hN : X.N[i]? = some x) (hv : Vis X.env.scope x) (hd : (x == ("__debug__" : Str)) = false := by decide) (hcd : (x == ("__classdict__" : Str)) = false := by decide) : PE X (.Name x pos) (tVar i) := by
  intro pins s σ H Q I h
  obtain ⟨v, e, h⟩ := h
  obtain ⟨m, hn, hl⟩ := I.loc
  obtain ⟨u, r, l⟩ := hl i x v hN e hv
  have fin : EP X pins σ Q u s := ⟨v, H, I, r, h⟩
  rcases l with ⟨hk, hm⟩ | ⟨hk, c, hc, hcell⟩
  · exact wpAny_Name (wpAny_loadName_local I.ok.kind hk hn hm fin) hd
  · rcases hk with hk | hk
    · exact wpAny_Name (wpAny_loadName_cell I.ok.kind hk hc hcell fin) hd
    · exact wpAny_Name (wpAny_loadName_free I.ok.kind hk hc hcell fin hcd) hd
theorem pe_int {i j pos} : PE X (.Constant (.int i) j pos) (tC (.int i)) := fun _ _ _ H _ I h => wpAny_Constant_int ⟨.int i, H, I.tok _, ⟨_, rfl⟩, h⟩
theorem pe_bl {b j pos} : PE X (.Constant (.bool b) j pos) (tC (.bl b)) := fun _ _ _ H _ I h => Constant_bool ⟨.bl b, H, I, rfl, h⟩
theorem pe_non {j pos} : PE X (.Constant .none j pos) (tC .non) := fun _ _ _ H _ I h => Constant_none ⟨.non, H, I, rfl, h⟩
theorem pe_str {x j pos} : PE X (.Constant (.str x) j pos) (tC (.str x)) := fun _ _ _ H _ I h => Calls.Constant_str ⟨.str x, H, I.tok _, ⟨_, rfl⟩, h⟩
def Gl (X : Cx) (x : Str) : Prop := X.env.kindOf x = some .globalImplicit
theorem ld_glob {E : Value → Shared → Prop} {pins : List (Addr × Obj)} {s : Shared} {σ : St} {H : Hp} {x : Str} {u : Value} {pos : Pos} {Q : Value → Shared → Prop} (I : Inv X pins σ H s) (hg : Gl X x) (hm : X.mg x = some u) (h : Q u s)
    (hd : (x == ("__debug__" : Str)) = false := by decide) : wpAny (model X.prog X.w) X.A (eval (.Name x pos) X.env) Q E s :=
  Calls.Name_function_global I.ok.kind hg (Calls.loadGlobal_global (by rw [I.ok.glob]; exact I.mod.glob.keeps I.bk) hm h) hd
theorem ld_blt {E : Value → Shared → Prop} {pins : List (Addr × Obj)} {s : Shared} {σ : St} {H : Hp} {x : Str} {u : Value} {pos : Pos} {Q : Value → Shared → Prop} (I : Inv X pins σ H s) (hg : Gl X x) (hm : X.mg x = none) (hv : bootBuiltins x = some u) (h : Q u s)
    (hn : x ≠ "__name__" := by decide) (hd : (x == ("__debug__" : Str)) = false := by decide) : wpAny (model X.prog X.w) X.A (eval (.Name x pos) X.env) Q E s := by
  obtain ⟨mb, h1, h2⟩ := I.mod.blt
  exact Calls.Name_function_global I.ok.kind hg (Calls.loadGlobal_builtin (by rw [I.ok.glob]; exact I.mod.glob.keeps I.bk) hm (by rw [I.ok.blt]; exact h1.keeps I.bk) ((h2 x hn).trans hv) h) hd
theorem pe_glob {x : Str} {v : V} {u : Value} {pos : Pos} (hg : Gl X x) (hm : X.mg x = some u) (r : RelV v u) (hd : (x == ("__debug__" : Str)) = false := by decide) : PE X (.Name x pos) (tC v) :=
  fun _ _ _ H _ I h => ld_glob I hg hm ⟨v, H, I, r, h⟩ hd
theorem pe_bltn {x : Str} {v : V} {u : Value} {pos : Pos} (hg : Gl X x) (hm : X.mg x = none) (hv : bootBuiltins x = some u) (r : RelV v u) (hn : x ≠ "__name__" := by decide) (hd : (x == ("__debug__" : Str)) = false := by decide) : PE X (.Name x pos) (tC v) :=
  fun _ _ _ H _ I h => ld_blt I hg hm hv ⟨v, H, I, r, h⟩ hn hd
variable {a b : Expr} {ta tb : TE} {pos : Pos}
def tB (t : TE) : TT := fun σ H Q => t σ H fun x H1 => ∃ c, x = .bl c ∧ Q c H1
theorem pt_val {e : Expr} {t : TE} (h : PE X e t) (he : ∀ whole, isTrue e X.env whole = (do let v ← whole; standAt e.pos; holding [v] (truthy v)) := by intro _; rfl) : PT X e (tB t) := by
  intro pins s σ H Q I hw
  refine isTrue_plain (thn (h pins s σ H _ I hw) fun v s1 ⟨x, H1, I1, r1, q1⟩ => ?_) (he _)
  obtain ⟨d, rfl, q⟩ := q1
  cases r1
  exact wpAny_truthy_bool ⟨H1, I1, q⟩
variable {tA tB' : TT} {rest : List Expr}
def tAnd (t u : TT) : TT := fun σ H Q => t σ H fun c H1 => if c = true then u σ H1 Q else Q false H1
def tOr (t u : TT) : TT := fun σ H Q => t σ H fun c H1 => if c = true then Q true H1 else u σ H1 Q
def tNot (t : TT) : TT := fun σ H Q => t σ H fun c H1 => Q (!c) H1
theorem pw_and1 (ha : PT X a tA) : PW X (.BoolOp .And [a] pos) tA := by
  intro wh pins s σ H Q I h
  refine isTrue_and (thn (ha pins s σ H Q I h) fun c s1 e => ?_)
  cases c with
  | true => exact isTrue_and_nil e
  | false => exact e
theorem pw_or1 (ha : PT X a tA) : PW X (.BoolOp .Or [a] pos) tA := by
  intro wh pins s σ H Q I h
  refine isTrue_or (thn (ha pins s σ H Q I h) fun c s1 e => ?_)
  cases c with
  | false => exact isTrue_or_nil e
  | true => exact e
theorem pw_and (ha : PT X a tA) (hb : PW X (.BoolOp .And (b :: rest) pos) tB') : PW X (.BoolOp .And (a :: b :: rest) pos) (tAnd tA tB') := by
  intro wh pins s σ H Q I h
  refine isTrue_and (thn (ha pins s σ H _ I h) fun c s1 ⟨H1, I1, q1⟩ => ?_)
  cases c with
  | true => exact hb wh pins s1 σ H1 Q I1 q1
  | false => exact ⟨H1, I1, q1⟩
theorem pw_or (ha : PT X a tA) (hb : PW X (.BoolOp .Or (b :: rest) pos) tB') : PW X (.BoolOp .Or (a :: b :: rest) pos) (tOr tA tB') := by
  intro wh pins s σ H Q I h
  refine isTrue_or (thn (ha pins s σ H _ I h) fun c s1 ⟨H1, I1, q1⟩ => ?_)
  cases c with
  | true => exact ⟨H1, I1, q1⟩
  | false => exact hb wh pins s1 σ H1 Q I1 q1
theorem pt_not (ha : PT X a tA) : PT X (.UnaryOp .Not a pos) (tNot tA) := by
  intro pins s σ H Q I h
  exact isTrue_not (ha pins s σ H (fun c H1 => Q (!c) H1) I h)
def tAndV (ta tb : TE) : TE := fun σ H Q => ta σ H fun x H1 => ∃ c, x = .bl c ∧ if c = true then tb σ H1 Q else Q (.bl false) H1
def tOrV (ta tb : TE) : TE := fun σ H Q => ta σ H fun x H1 => ∃ c, x = .bl c ∧ if c = true then Q (.bl true) H1 else tb σ H1 Q
def tNotV (ta : TE) : TE := fun σ H Q => ta σ H fun x H1 => ∃ c, x = .bl c ∧ Q (.bl (!c)) H1
theorem pe_one {op} {t : TE} (h : PE X a t) : PE X (.BoolOp op [a] pos) t := fun pins s σ H Q I hw => BoolOp_one (h pins s σ H Q I hw)
theorem pe_and (ha : PE X a ta) (hb : PE X (.BoolOp .And (b :: rest) pos) tb) : PE X (.BoolOp .And (a :: b :: rest) pos) (tAndV ta tb) := by
  intro pins s σ H Q I h
  refine BoolOp_and (thn (ha pins s σ H _ I h) fun v s1 ⟨x, H1, I1, r1, q1⟩ => ?_)
  obtain ⟨c, rfl, q1⟩ := q1
  cases r1
  refine wpAny_truthy_bool ?_
  cases c with
  | true => exact hb pins s1 σ H1 Q I1 q1
  | false => exact ⟨.bl false, H1, I1, rfl, q1⟩
theorem pe_or (ha : PE X a ta) (hb : PE X (.BoolOp .Or (b :: rest) pos) tb) : PE X (.BoolOp .Or (a :: b :: rest) pos) (tOrV ta tb) := by
  intro pins s σ H Q I h
  refine BoolOp_or (thn (ha pins s σ H _ I h) fun v s1 ⟨x, H1, I1, r1, q1⟩ => ?_)
  obtain ⟨c, rfl, q1⟩ := q1
  cases r1
  refine wpAny_truthy_bool ?_
  cases c with
  | false => exact hb pins s1 σ H1 Q I1 q1
  | true => exact ⟨.bl true, H1, I1, rfl, q1⟩
theorem pe_not (ha : PE X a ta) : PE X (.UnaryOp .Not a pos) (tNotV ta) := by
  intro pins s σ H Q I h
  refine UnaryOp_ (thn (ha pins s σ H _ I h) fun v s1 ⟨x, H1, I1, r1, q1⟩ => ?_)
  obtain ⟨c, rfl, q1⟩ := q1
  cases r1
  exact not_of (wpAny_truthy_bool ⟨.bl (!c), H1, I1, rfl, q1⟩)
end
end L2
namespace L2
open PySem PySem.Spec PyProof.Rows
def SqL (K : PySem.W.Frag) (H : Hp) (a : Addr) (xs : List V) : Prop :=
  Rd H a (.lst xs) ∨
    ∃ (o : Obj) (its : Array Value) (n : Nat), K.lookup a = some o ∧ o.cls = .type "list" ∧ o.dict = none ∧ o.data = .seq its n ∧ its.size ≤ sizeLine ∧ Vals xs its.toList
def SqT (K : PySem.W.Frag) (H : Hp) (a : Addr) (xs : List V) : Prop :=
  Rd H a (.tup xs) ∨
    ∃ (o : Obj) (its : Array Value) (n : Nat), K.lookup a = some o ∧ o.cls = .type "tuple" ∧ o.data = .seq its n ∧ its.size ≤ sizeLine ∧ Vals xs its.toList
def absV : Value → Option V
  | .none => some .non
  | .bool b => some (.bl b)
  | .int i _ => some (.int i)
  | .str x _ => some (.str x)
  | .bytes b _ => some (.byt b)
  | .float b _ => some (.flt b)
  | .ref a => some (.ref a)
  | .type n => some (.ty n)
  | _ => none
theorem RelV.abs {x : V} {u : Value} (r : RelV x u) : absV u = some x := by
  cases x with
  | non => cases r; rfl
  | bl _ => cases r; rfl
  | int _ => obtain ⟨t, rfl⟩ := r; rfl
  | str _ => obtain ⟨t, rfl⟩ := r; rfl
  | byt _ => obtain ⟨t, rfl⟩ := r; rfl
  | flt _ => obtain ⟨t, rfl⟩ := r; rfl
  | ref _ => cases r; rfl
  | ty _ => cases r; rfl
theorem RelV.inj {x y : V} {u : Value} (r : RelV x u) (q : RelV y u) : x = y := Option.some.inj (r.abs.symm.trans q.abs)
theorem Vals.inj : ∀ {xs ys : List V} {us : List Value}, Vals xs us → Vals ys us → xs = ys
  | _, _, _, .nil, .nil => rfl
  | _, _, _, .cons r t, .cons r' t' => by rw [r.inj r', Vals.inj t t']
section
variable {X : Cx} {pins : List (Addr × Obj)} {σ : St} {H : Hp} {s : Shared} {a : Addr} {xs ys : List V}
theorem SqL.of {K : PySem.W.Frag} (h : H a = some (.lst xs)) : SqL K H a xs := .inl (.inl h)
theorem SqT.of {K : PySem.W.Frag} (h : H a = some (.tup xs)) : SqT K H a xs := .inl (.inl h)
theorem Inv.list (I : Inv X pins σ H s) (h : SqL X.K H a xs) : ∃ its : List Value, Vals xs its ∧ PlainL s.heap a its.toArray ∧ xs.length ≤ sizeLine := by
  rcases h with h | ⟨o, its, n, hk, hc, hd, hs, hz, r⟩
  · obtain ⟨z, its, n, r, e⟩ := h.ok I.hok
    exact ⟨its, r, ⟨_, n, e, rfl, rfl, rfl⟩, z⟩
  · refine ⟨its.toList, r, ⟨o, n, I.kIn a o hk, hc, hd, by simpa using hs⟩, ?_⟩
    have e := r.length
    simp only [Array.length_toList] at e
    omega
theorem Inv.tuple (I : Inv X pins σ H s) (h : SqT X.K H a xs) : ∃ its : List Value, Vals xs its ∧ IsTup s.heap a its.toArray ∧ xs.length ≤ sizeLine := by
  rcases h with h | ⟨o, its, n, hk, hc, hs, hz, r⟩
  · obtain ⟨z, its, r, p⟩ := h.ok I.hok
    exact ⟨its, r, p, z⟩
  · refine ⟨its.toList, r, ⟨o, I.kIn a o hk, hc, n, by simpa using hs⟩, ?_⟩
    have e := r.length
    simp only [Array.length_toList] at e
    omega
theorem Inv.list_inj (I : Inv X pins σ H s) (h : SqL X.K H a xs) (h' : SqL X.K H a ys) : xs = ys := by
  obtain ⟨its, r, ⟨o, n, e, _, _, d⟩, _⟩ := I.list h
  obtain ⟨its', r', ⟨o', n', e', _, _, d'⟩, _⟩ := I.list h'
  rw [e] at e'; cases e'
  rw [d] at d'
  injection d' with d1 _
  have : its = its' := by simpa using congrArg Array.toList d1
  subst this
  exact r.inj r'
theorem Inv.tuple_inj (I : Inv X pins σ H s) (h : SqT X.K H a xs) (h' : SqT X.K H a ys) : xs = ys := by
  obtain ⟨its, r, ⟨o, e, _, n, d⟩, _⟩ := I.tuple h
  obtain ⟨its', r', ⟨o', e', _, n', d'⟩, _⟩ := I.tuple h'
  rw [e] at e'; cases e'
  rw [d] at d'
  injection d' with d1 _
  have : its = its' := by simpa using congrArg Array.toList d1
  subst this
  exact r.inj r'
end
abbrev Cx.wish (X : Cx) (E : Value → Shared → Prop) : Cx := { X with xe := E }
abbrev Cx.nox (X : Cx) : Cx := X.wish fun _ _ => False
theorem Cx.Ok.wish {X : Cx} (ok : X.Ok) (E : Value → Shared → Prop) : (X.wish E).Ok :=
  ⟨ok.mod, ok.kind, ok.glob, ok.blt, ok.above, ok.inj, ok.has, ok.cab, ok.hd, ok.frames, ok.stk, ok.exf, ok.bs, ok.bsz, ok.noex, ok.exfs, ok.funs, ok.frf⟩
theorem Cx.Ok.unwish {X : Cx} {E : Value → Shared → Prop} (ok : (X.wish E).Ok) : X.Ok :=
  ⟨ok.mod, ok.kind, ok.glob, ok.blt, ok.above, ok.inj, ok.has, ok.cab, ok.hd, ok.frames, ok.stk, ok.exf, ok.bs, ok.bsz, ok.noex, ok.exfs, ok.funs, ok.frf⟩
section
variable {X : Cx} {pins : List (Addr × Obj)} {σ : St} {H : Hp} {s : Shared} {E : Value → Shared → Prop}
theorem Inv.wish (I : Inv X pins σ H s) (E : Value → Shared → Prop) : Inv (X.wish E) pins σ H s := ⟨I.ok.wish E, I.os, I.bare, I.base, I.loc, I.cell, I.free, I.freeC, I.pin, I.hok, I.len⟩
theorem Inv.unwish (I : Inv (X.wish E) pins σ H s) : Inv X pins σ H s := ⟨I.ok.unwish, I.os, I.bare, I.base, I.loc, I.cell, I.free, I.freeC, I.pin, I.hok, I.len⟩
theorem SP.unwish {D : Ends} {f : Flow} {s' : Shared} (h : SP (X.wish E) pins D f s') : SP X pins D f s' := by
  cases f with
  | next => obtain ⟨σ', H', I, q⟩ := h; exact ⟨σ', H', I.unwish, q⟩
  | brk => obtain ⟨σ', H', I, q⟩ := h; exact ⟨σ', H', I.unwish, q⟩
  | cont => obtain ⟨σ', H', I, q⟩ := h; exact ⟨σ', H', I.unwish, q⟩
  | ret u => obtain ⟨v, σ', H', I, r, q⟩ := h; exact ⟨v, σ', H', I.unwish, r, q⟩
theorem PSs.nox {st : List Stmt} {t : TS} (h : PSs X.nox st t) : PSs X st t := fun pins s σ H D I hw =>
  wpAny_mono (h pins s σ H D (I.wish _) hw) (fun _ _ q => q.unwish) fun _ _ z => False.elim z
end
section
variable {X : Cx} {st : Stmt} {rest : List Stmt} {t u : TS} {e : Expr} {te : TE} {pos : Pos}
def tNext : TS := fun D σ H => D.nx σ H
def tSeq (t u : TS) : TS := fun D σ H => t { D with nx := u D } σ H
theorem pss_nil : PSs X [] tNext := fun _ _ σ H _ I h => wpAny_execs_nil ⟨σ, H, I, h⟩
theorem pss_cons (h1 : PS X st t) (h2 : PSs X rest u) : PSs X (st :: rest) (tSeq t u) := by
  intro pins s σ H D I h
  refine wpAny_execs_cons (thn (h1 pins s σ H { D with nx := u D } I h) fun f s1 q => ?_)
  cases f with
  | next =>
    obtain ⟨σ', H', I', q⟩ := q
    exact h2 pins s1 σ' H' D I' q
  | ret v => exact q
  | brk => exact q
  | cont => exact q
theorem pss_one (h1 : PS X st t) : PSs X [st] t := by
  intro pins s σ H D I h
  refine wpAny_execs_cons (thn (h1 pins s σ H D I h) fun f s1 q => ?_)
  cases f with
  | next => exact wpAny_execs_nil q
  | ret v => exact q
  | brk => exact q
  | cont => exact q
theorem Inv.quiet {pins : List (Addr × Obj)} {σ : St} {H : Hp} {s : Shared} (I : Inv X pins σ H s) : interactive X.env = false := by simp [interactive, I.ok.kind]
def tDrop (te : TE) : TS := fun D σ H => te σ H fun _ H1 => D.nx σ H1
theorem ps_expr (he : PE X e te) (hs : swapsWith e none pos.line X.env = pure false := by rfl) : PS X (.Expr e pos) (tDrop te) := by
  intro pins s σ H D I h
  exact wpAny_Expr_any (thn (he pins s σ H _ I h) fun v s1 ⟨x, H1, I1, r1, q1⟩ => ⟨σ, H1, I1, q1⟩) I.quiet hs
def tRet (te : TE) : TS := fun D σ H => te σ H D.rt
theorem ps_ret (he : PE X e te) : PS X (.Return (some e) pos) (tRet te) := by
  intro pins s σ H D I h
  exact wpAny_Return_some (thn (he pins s σ H _ I h) fun v s1 ⟨x, H1, I1, r1, q1⟩ => ⟨x, σ, H1, I1, r1, q1⟩)
def tIfS (c : TT) (t u : TS) : TS := fun D σ H => c σ H fun b H1 => if b = true then t D σ H1 else u D σ H1
theorem ps_if {c : Expr} {a b : List Stmt} {tc : TT} (hc : PT X c tc) (ha : PSs X a t) (hb : PSs X b u) : PS X (.If c a b pos) (tIfS tc t u) := by
  intro pins s σ H D I h
  refine wpAny_If (thn (hc pins s σ H _ I h) fun d s1 ⟨H1, I1, q1⟩ => ?_)
  cases d with
  | true => exact ha pins s1 σ H1 D I1 q1
  | false => exact hb pins s1 σ H1 D I1 q1
def tNever : TS := fun _ _ _ => False
theorem ps_never : PS X st tNever := fun _ _ _ _ _ _ h => h.elim
end
abbrev TG := V → St → Hp → (St → Hp → Prop) → Prop
abbrev TGs := List V → St → Hp → (St → Hp → Prop) → Prop
def PG (X : Cx) (target : Expr) (t : TG) : Prop :=
  ∀ (pins : List (Addr × Obj)) (s : Shared) (σ : St) (H : Hp) (v : V) (u : Value) (Q : St → Hp → Prop), Inv X pins σ H s → RelV v u → t v σ H Q →
    wpAny (model X.prog X.w) X.A (assign target X.env u) (fun _ s' => ∃ σ' H', Inv X pins σ' H' s' ∧ Q σ' H') X.xe s
def PGs (X : Cx) (ts : List Expr) (t : TGs) : Prop :=
  ∀ (pins : List (Addr × Obj)) (s : Shared) (σ : St) (H : Hp) (vs : List V) (us : List Value) (Q : St → Hp → Prop), Inv X pins σ H s → Vals vs us → t vs σ H Q →
    wpAny (model X.prog X.w) X.A (assignInOrder ((assignEach ts X.env).map (·.2)) us) (fun _ s' => ∃ σ' H', Inv X pins σ' H' s' ∧ Q σ' H') X.xe s
abbrev TSet := V → V → V → Hp → (Hp → Prop) → Prop
def PSet (X : Cx) (t : TSet) : Prop :=
  ∀ (pins : List (Addr × Obj)) (s : Shared) (σ : St) (H : Hp) (o i v : V) (ov iv u : Value) (Q : Hp → Prop), Inv X pins σ H s → RelV o ov → RelV i iv → RelV v u → t o i v H Q →
    wpAny (model X.prog X.w) X.A (setItem ov iv u) (fun _ s' => ∃ H', Inv X pins σ H' s' ∧ Q H') X.xe s
section
variable {X : Cx} {pos : Pos}
def gName (i : Nat) : TG := fun v σ H Q => Q (σ.set i (some v)) H
theorem pg_name {i : Nat} {x : Str} (hN : X.N.Nodup) (hi : X.N[i]? = some x) (hx : Loc X.env.scope x) (hf : X.fn x = true ∨ X.env.scope.names.lookup x = some .local := by first | exact .inl rfl | exact .inr rfl | assumption) : PG X (.Name x pos) (gName i) := by
  intro pins s σ H v u Q I r h
  exact wpAny_assign_Name (store_ok I hN hi hx r (fun s' I' => ⟨_, H, I', h⟩) hf)
def gNil : TGs := fun vs σ H Q => vs = [] ∧ Q σ H
def gCons (t : TG) (u : TGs) : TGs := fun vs σ H Q => ∃ v r, vs = v :: r ∧ t v σ H fun σ' H' => u r σ' H' Q
theorem pgs_nil : PGs X [] gNil := by
  intro pins s σ H vs us Q I r h
  obtain ⟨e, h⟩ := h
  subst e
  cases r
  exact assignInOrder_nil ⟨σ, H, I, h⟩
theorem pgs_cons {e : Expr} {es : List Expr} {t : TG} {u : TGs} (h1 : PG X e t) (h2 : PGs X es u)
    (hs : (assignEach (e :: es) X.env).map (·.2) = assign e X.env :: (assignEach es X.env).map (·.2) := by rfl) : PGs X (e :: es) (gCons t u) := by
  intro pins s σ H vs us Q I r h
  obtain ⟨v, vr, e1, h⟩ := h
  subst e1
  cases r with
  | cons r rr =>
    rw [hs]
    refine assignInOrder_cons (thn (h1 pins s σ H _ _ _ I r h) fun _ s1 ⟨σ1, H1, I1, q1⟩ => ?_)
    exact h2 pins s1 σ1 H1 _ _ Q I1 rr q1
def gTup (K : PySem.W.Frag) (n : Nat) (t : TGs) : TG := fun v σ H Q => ∃ a xs, v = .ref a ∧ SqT K H a xs ∧ xs.length = n ∧ t xs σ H Q
theorem pg_tup {es : List Expr} {k : Nat} {t : TGs} {n : Nat} (hc : X.calm = true) (h : PGs X es t)
    (hn : (assignEach es X.env).length = n := by rfl) (hst : (assignEach es X.env).findIdx? (·.1) = none := by rfl) : PG X (.Tuple es k pos) (gTup X.K n t) := by
  intro pins s σ H v u Q I r hw
  obtain ⟨a, xs, e1, hq, hl, hw⟩ := hw
  subst e1
  cases r
  obtain ⟨its, rv, ht, hz⟩ := I.tuple hq
  refine assign_Tuple_tuple (I.ok.hd hc) ht (by simp [hn, ← hl, rv.length]) hst fun h' hx => ?_
  have I1 : Inv X pins σ H { s with heap := h' } := I.kept (t' := s.toks) fun b o e => hx b o (Nat.ne_of_lt (Heap.lt_size e)) e
  exact h pins _ σ H xs _ Q I1 (by simpa using rv) hw
def gSub (to ti : TE) (t : TSet) : TG := fun v σ H Q => to σ H fun o H1 => ti σ H1 fun i H2 => t o i v H2 fun H3 => Q σ H3
theorem pg_sub {o i : Expr} {to ti : TE} {t : TSet} (ho : PE X o to) (hi : PE X i ti) (hs : PSet X t)
    (ha : ∀ v, assign (.Subscript o i pos) X.env v = (do
      let ov ← holding [v] (eval o X.env)
      let iv ← holding [v, ov] (eval i X.env)
      standAt pos
      holding [v, ov, iv] (setItem ov iv v)
      release [v, ov, iv] []) := by intro _; rfl) : PG X (.Subscript o i pos) (gSub to ti t) := by
  intro pins s σ H v u Q I r h
  rw [ha]
  refine wpAny_bind (wpAny_holding (thn (ho pins s σ H _ I h) fun ov s1 ⟨x, H1, I1, r1, q1⟩ => ?_))
  refine wpAny_bind (wpAny_holding (thn (hi pins s1 σ H1 _ I1 q1) fun iv s2 ⟨y, H2, I2, r2, q2⟩ => ?_))
  refine wpAny_bind (wpAny_standAt (wpAny_bind (wpAny_holding (thn (hs pins s2 σ H2 x y v ov iv u _ I2 r1 r2 r q2) fun _ s3 ⟨H3, I3, q3⟩ => ?_))))
  exact wpAny_release ⟨σ, H3, I3, q3⟩
def tAsg (te : TE) (g : TG) : TS := fun D σ H => te σ H fun x H1 => g x σ H1 D.nx
theorem ps_asg {tg e : Expr} {te : TE} {g : TG} (he : PE X e te) (hg : PG X tg g) (hs : swapsWithSole [tg] e pos.line X.env = pure false := by rfl) (hw : swappedStores [tg] e X.env = pure none := by rfl)
    (h1 : (assignEach [tg] X.env).map (·.2) = [assign tg X.env] := by rfl) : PS X (.Assign [tg] e pos) (tAsg te g) := by
  intro pins s σ H D I h
  refine wpAny_Assign_stores (thn (he pins s σ H _ I h) fun v s1 ⟨x, H1, I1, r1, q1⟩ => ?_) hs hw
  rw [h1]
  exact thn (hg pins s1 σ H1 x v _ I1 r1 q1) fun _ s2 q => q
theorem ps_set {i : Nat} {x : Str} {e : Expr} {te : TE} {pos' : Pos} (hN : X.N.Nodup) (hi : X.N[i]? = some x) (hx : Loc X.env.scope x) (he : PE X e te) (hs : swapsWith e (some (.Name x pos')) pos.line X.env = pure false := by rfl) (hf : X.fn x = true ∨ X.env.scope.names.lookup x = some .local := by first | exact .inl rfl | exact .inr rfl | assumption) :
    PS X (.Assign [.Name x pos'] e pos) (tAsg te (gName i)) := by
  intro pins s σ H D I h
  refine wpAny_Assign_Name (thn (he pins s σ H _ I h) fun v s1 ⟨y, H1, I1, r1, q1⟩ => ?_) hs
  exact store_ok I1 hN hi hx r1 (fun s2 I2 => ⟨_, H1, I2, q1⟩) hf
def tPar (i j : Nat) (ta : TA) : TS := fun D σ H => ta σ H fun vs H1 => ∃ v w, vs = [v, w] ∧ D.nx ((σ.set i (some v)).set j (some w)) H1
theorem ps_par {i j : Nat} {x y : Str} {a b : Expr} {ta : TA} {px py pt : Pos} {kt k2 pt2} (hc : X.calm = true) (hN : X.N.Nodup) (hi : X.N[i]? = some x) (hj : X.N[j]? = some y) (hij : i ≠ j)
    (hx : X.env.scope.names.lookup x = some .local) (hy : X.env.scope.names.lookup y = some .local) (ha : PA X [a, b] ta)
    (hw : swappedStores [.Tuple [.Name x px, .Name y py] kt pt] (.Tuple [a, b] k2 pt2) X.env = pure (some [x, y]))
    (hs : swapsWithSole [.Tuple [.Name x px, .Name y py] kt pt] (.Tuple [a, b] k2 pt2) pos.line X.env = pure false := by rfl) :
    PS X (.Assign [.Tuple [.Name x px, .Name y py] kt pt] (.Tuple [a, b] k2 pt2) pos) (tPar i j ta) := by
  intro pins s σ H D I h
  rw [exec_Assign_arm]
  refine wpAny_bind (wpAny_standAt ?_)
  rw [hs]
  refine wpAny_bind (wpAny_pure ?_)
  rw [if_neg (by decide)]
  refine wpAny_bind (Tuple_ (thn (ha _ pins s σ H _ I h) fun us s1 ⟨vs, H1, I1, r1, q1⟩ => ?_))
  obtain ⟨v, w, e1, q1⟩ := q1
  subst e1
  obtain ⟨u1, u2, rfl, rv, rw'⟩ : ∃ u1 u2, us = [u1, u2] ∧ RelV v u1 ∧ RelV w u2 := by
    cases r1 with
    | cons p q =>
      cases q with
      | cons p' q' =>
        cases q'
        exact ⟨_, _, rfl, p, p'⟩
  refine wpAny_newObj_type ?_ (by show 2 ≤ sizeLine; decide)
  have I2 : Inv X pins σ H1 { s1 with heap := s1.heap.push { cls := .type "tuple", data := .seq [u1, u2].toArray } } := I1.kept (t' := s1.toks) fun b o e => Heap.get?_push_of_some _ e
  rw [hw]
  refine wpAny_bind (wpAny_pure ?_)
  show wpAny (model X.prog X.w) X.A (do rule "assign.swapped-stores"; let items ← unpackItems (.ref s1.heap.objs.size) 2 none; assignInOrder [fun v => bindName X.env y v, fun v => bindName X.env x v] items.reverse; pure Flow.next) _ _ _
  refine wpAny_bind (wpAny_rule (wpAny_bind (unpackItems_tuple (items := #[u1, u2]) (I.ok.hd hc) (IsTup.new s1.heap _) fun h' hx' => ?_)))
  have I3 := I2.kept (h' := h') (t' := s1.toks) fun b o e => hx' b o (Nat.ne_of_lt (Heap.lt_size e)) e
  show wpAny _ _ (assignInOrder [fun v => bindName X.env y v, fun v => bindName X.env x v] [u2, u1] >>= fun _ => pure Flow.next) _ _ _
  refine wpAny_bind (assignInOrder_cons (wpAny_bindName (store_ok I3 hN hj (.inl hy) rw' (fun s2 I4 => ?_) (.inr hy))))
  refine assignInOrder_cons (wpAny_bindName (store_ok I4 hN hi (.inl hx) rv (fun s3 I5 => assignInOrder_nil (wpAny_pure ?_)) (.inr hx)))
  rw [List.set_comm _ _ (Ne.symm hij)] at I5
  exact ⟨_, H1, I5, q1⟩
end
section
variable {X : Cx} {pos : Pos}
def tWhile (c : TT) (tb : TS) : TS := fun D σ H => ∃ W : Nat → St → Hp → Prop, (∃ m, W m σ H) ∧ ∀ m σ H, W m σ H →
  c σ H fun b H1 => if b = true then ∃ N : St → Hp → Prop, (∀ σ' H', N σ' H' → ∃ m', m' < m ∧ W m' σ' H') ∧ tb { D with nx := N, ct := N, bk := D.nx } σ H1 else D.nx σ H1
theorem ps_while {c : Expr} {body : List Stmt} {tc : TT} {tb : TS} (hp : PassesOwn (model X.prog X.w) X.A X.env X.xe) (hc : PT X c tc) (hb : PSs X body tb) : PS X (.While c body [] pos) (tWhile tc tb) := by
  intro pins s σ H D I h
  obtain ⟨W, ⟨m0, w0⟩, turn⟩ := h
  refine wpAny_While (codeAny_whileLoop (fun n s' => ∃ σ' H', Inv X pins σ' H' s' ∧ W n σ' H') ?_ m0 ⟨σ, H, I, w0⟩)
  rintro n s1 ⟨σ1, H1, I1, w1⟩
  refine wpAny_passesOwn hp (thn (hc pins s1 σ1 H1 _ I1 (turn n σ1 H1 w1)) fun b s2 ⟨H2, I2, q2⟩ => ?_)
  cases b with
  | true =>
    obtain ⟨N, hN, q2⟩ := q2
    rw [if_pos rfl]
    refine wpAny_passesOwn hp (thn (hb pins s2 σ1 H2 _ I2 q2) fun f s3 q3 => ?_)
    cases f with
    | next =>
      obtain ⟨σ3, H3, I3, n3⟩ := q3
      obtain ⟨m', hm, w3⟩ := hN σ3 H3 n3
      exact ⟨m', hm, σ3, H3, I3, w3⟩
    | cont =>
      obtain ⟨σ3, H3, I3, n3⟩ := q3
      obtain ⟨m', hm, w3⟩ := hN σ3 H3 n3
      exact ⟨m', hm, σ3, H3, I3, w3⟩
    | brk => exact q3
    | ret v => exact q3
  | false =>
    rw [if_neg Bool.false_ne_true]
    exact wpAny_execs_nil ⟨σ1, H2, I2, q2⟩
end
structure It where
  go : Nat → Hp → Prop
  yld : Nat → Hp → V → Hp → Prop
  stop : Nat → Hp → Prop
def FpOk (X : Cx) (pins : List (Addr × Obj)) (H : Hp) (b : Addr) : Prop :=
  H b = none ∧ b ≠ X.env.locals ∧ b ∉ X.fs ∧ (b ∈ X.ex ∨ X.s₀.heap.objs.size ≤ b) ∧ (∀ x c, X.env.cells.lookup x = some c → c ≠ b) ∧ ∀ p ∈ X.pn ++ pins, p.1 ≠ b
theorem Inv.fpOk {X : Cx} {pins : List (Addr × Obj)} {σ : St} {H H' : Hp} {s : Shared} {b : Addr} (I : Inv X pins σ H s) (hb : s.heap.objs.size ≤ b) (hn : H' b = none) : FpOk X pins H' b := by
  refine ⟨hn, Nat.ne_of_gt (Nat.lt_of_lt_of_le I.lt hb), I.nofs hb, .inr (Nat.le_trans I.sz hb), fun x c e z => ?_, fun p hp z => ?_⟩
  · obtain ⟨v, q⟩ := I.cell x c e
    exact absurd (Nat.lt_of_lt_of_le q.lt (by rw [z]; exact hb)) (Nat.lt_irrefl _)
  · exact absurd (Nat.lt_of_lt_of_le (Heap.lt_size (I.pin p hp).1) (by rw [z]; exact hb)) (Nat.lt_irrefl _)
structure Turn (P : Program) (w : World) (K : PySem.W.Frag) (tg : Expr) (J : It) (fp : List Addr) (it : Addr) (tn : Nat → Heap → Prop) : Prop where
  mem : it ∈ fp
  obj : ∀ i h, tn i h → ∀ b ∈ fp, ∃ o, h.get? b = some o ∧ ∀ v, o.data ≠ .cell v
  keep : ∀ i h h', tn i h → (∀ b ∈ fp, ∀ o, h.get? b = some o → h'.get? b = some o) → tn i h'
  item : ∀ (X : Cx), X.prog = P → X.w = w → X.K = K → X.calm = true → ∀ (i : Nat) (pins : List (Addr × Obj)) (s : Shared) (σ : St) (H : Hp) (E : Value → Shared → Prop), Inv X pins σ H s → (∀ b ∈ fp, FpOk X pins H b) → tn i s.heap → J.go i H →
    wpAny (model P w) X.A (pyNext (.ref it)) (fun r s1 => ∃ u, r = some u ∧
      wpAny (model P w) X.A (letOwnedTupleGo tg (.ref it) u) (fun _ s2 => ∃ x H', Inv X pins σ H' s2 ∧ RelV x u ∧ J.yld i H x H' ∧ tn (i + 1) s2.heap ∧ ∀ b ∈ fp, H' b = none) E s1) E s
  done : ∀ (X : Cx), X.prog = P → X.w = w → X.K = K → X.calm = true → ∀ (i : Nat) (pins : List (Addr × Obj)) (s : Shared) (σ : St) (H : Hp) (E : Value → Shared → Prop), Inv X pins σ H s → (∀ b ∈ fp, FpOk X pins H b) → tn i s.heap → J.stop i H →
    wpAny (model P w) X.A (pyNext (.ref it)) (fun r s1 => r = none ∧ Inv X pins σ H s1) E s
  self : ∀ (A : Around) (i : Nat) (s : Shared) (Q : Value → Shared → Prop) (E : Value → Shared → Prop), tn i s.heap → Q (.ref it) s → wpAny (model P w) A (pyIter (.ref it)) Q E s
abbrev TI := St → Hp → (It → Hp → Prop) → Prop
def PIE (X : Cx) (pins : List (Addr × Obj)) (σ : St) (tg : Expr) (R : It → Hp → Prop) (itv : Value) (s2 : Shared) : Prop :=
  ∃ (it : Addr) (fp : List Addr) (tn : Nat → Heap → Prop) (J : It) (H' : Hp), itv = .ref it ∧ Inv X pins σ H' s2 ∧ Turn X.prog X.w X.K tg J fp it tn ∧ tn 0 s2.heap ∧ (∀ b ∈ fp, FpOk X pins H' b) ∧ R J H'
def PI (X : Cx) (tg iter : Expr) (wi : TI) : Prop :=
  ∀ (pins : List (Addr × Obj)) (s : Shared) (σ : St) (H : Hp) (R : It → Hp → Prop), Inv X pins σ H s → wi σ H R →
    wpAny (model X.prog X.w) X.A (eval iter X.env) (fun v s1 => wpAny (model X.prog X.w) X.A (pyIter v) (PIE X pins σ tg R) X.xe s1) X.xe s
theorem go_of {M : Model} {A : Around} {E : Value → Shared → Prop} {s : Shared} {tg : Expr} {it : Addr} {u : Value} {o : Obj} {n : String} {vs : Array Value} {Q : Unit → Shared → Prop} (ho : s.heap.get? it = some o) (hc : o.cls = .type n) (hd : o.data = .fields vs)
    (hn : ["enumerate", "zip", "dict_itemiterator", "dict_reverseitemiterator", "odict_iterator", "itertools.zip_longest", "itertools.pairwise"].contains n = false) (hQ : Q () s) : wpAny M A (letOwnedTupleGo tg (.ref it) u) Q E s := by
  unfold letOwnedTupleGo
  cases tg <;> first
    | exact wpAny_pure hQ
    | (cases u <;> first
        | exact wpAny_pure hQ
        | (refine wpAny_bind (wpAny_load ho ?_)
           rw [hc, hd]
           show wpAny M A (if (["enumerate", "zip", "dict_itemiterator", "dict_reverseitemiterator", "odict_iterator", "itertools.zip_longest", "itertools.pairwise"].contains n && vs[0]? == some (rawInt _)) = true then _ else _) Q E s
           rw [if_neg (by intro h; rw [hn, Bool.false_and] at h; cases h)]
           exact wpAny_pure hQ))
def Itl (K : PySem.W.Frag) (a : Addr) : It :=
  ⟨fun i H => ∃ xs x, SqL K H a xs ∧ xs[i]? = some x, fun i H x H' => H' = H ∧ ∀ xs, SqL K H a xs → xs[i]? = some x, fun i H => ∃ xs, SqL K H a xs ∧ xs.length ≤ i⟩
def Itt (K : PySem.W.Frag) (a : Addr) : It :=
  ⟨fun i H => ∃ xs x, SqT K H a xs ∧ xs[i]? = some x, fun i H x H' => H' = H ∧ ∀ xs, SqT K H a xs → xs[i]? = some x, fun i H => ∃ xs, SqT K H a xs ∧ xs.length ≤ i⟩
def Itr (lo : Int) (n : Nat) : It := ⟨fun i _ => i < n, fun i H x H' => H' = H ∧ x = .int (lo + i), fun i _ => n ≤ i⟩
theorem turn_list {P : Program} {w : World} {K : PySem.W.Frag} {tg : Expr} (a it : Addr) : Turn P w K tg (Itl K a) [it] it (fun i h => h.IsListIter it a i) where
  mem := by simp
  obj := fun i h st b hb => by
    have e : b = it := by simpa using hb
    subst e
    obtain ⟨o, e, c, d⟩ := st
    exact ⟨o, e, fun v z => by rw [d] at z; cases z⟩
  keep := fun i h h' st k => st.at fun o e => k it (by simp) o e
  item := by
    intro X hP hw hK hc i pins s σ H E I hf st hg
    subst hP hw hK
    obtain ⟨xs, x, hq, hx⟩ := hg
    obtain ⟨its, rv, p, hz⟩ := I.list hq
    obtain ⟨u, hu, ru⟩ := rv.get hx
    obtain ⟨f0, f1, f2, f3, f4, f5⟩ := hf it (by simp)
    refine wpAny_pyNext_list_item st p.isList (x := u) (by simpa using hu) fun h' st' sb => ?_
    have I1 : Inv X pins σ H { s with heap := h' } := I.turned (t' := s.toks) (fun b o hb e => (sb.2 b hb).trans e) f0 f1 f3 f4 f5
    obtain ⟨o, e, c, d⟩ := id st'
    exact ⟨u, rfl, go_of (s := { s with heap := h' }) e c d (by decide) ⟨x, H, I1, ru, ⟨rfl, fun ys hy => by rw [I.list_inj hy hq]; exact hx⟩, st', fun b hb => (hf b hb).1⟩⟩
  done := by
    intro X hP hw hK hc i pins s σ H E I hf st hg
    subst hP hw hK
    obtain ⟨xs, hq, hx⟩ := hg
    obtain ⟨its, rv, p, hz⟩ := I.list hq
    obtain ⟨f0, f1, f2, f3, f4, f5⟩ := hf it (by simp)
    have hl := rv.length
    exact wpAny_pyNext_list_end (I.ok.hd hc) st p.isList (by simp; omega) fun h' eb => ⟨rfl, I.turned (t' := s.toks) (fun b o hb e => eb b o hb e) f0 f1 f3 f4 f5⟩
  self := fun _ _ _ _ _ st h => wpAny_pyIter_listiter st h
theorem turn_tuple {P : Program} {w : World} {K : PySem.W.Frag} {tg : Expr} (a it : Addr) : Turn P w K tg (Itt K a) [it] it (fun i h => h.IsTupleIter it a i) where
  mem := by simp
  obj := fun i h st b hb => by
    have e : b = it := by simpa using hb
    subst e
    obtain ⟨o, e, c, d⟩ := st
    exact ⟨o, e, fun v z => by rw [d] at z; cases z⟩
  keep := fun i h h' st k => st.at fun o e => k it (by simp) o e
  item := by
    intro X hP hw hK hc i pins s σ H E I hf st hg
    subst hP hw hK
    obtain ⟨xs, x, hq, hx⟩ := hg
    obtain ⟨its, rv, p, hz⟩ := I.tuple hq
    obtain ⟨u, hu, ru⟩ := rv.get hx
    obtain ⟨f0, f1, f2, f3, f4, f5⟩ := hf it (by simp)
    refine wpAny_pyNext_tuple_item st (show s.heap.IsTuple a its.toArray from p) (x := u) (by simpa using hu) fun h' st' sb => ?_
    have I1 : Inv X pins σ H { s with heap := h' } := I.turned (t' := s.toks) (fun b o hb e => (sb.2 b hb).trans e) f0 f1 f3 f4 f5
    obtain ⟨o, e, c, d⟩ := id st'
    exact ⟨u, rfl, go_of (s := { s with heap := h' }) e c d (by decide) ⟨x, H, I1, ru, ⟨rfl, fun ys hy => by rw [I.tuple_inj hy hq]; exact hx⟩, st', fun b hb => (hf b hb).1⟩⟩
  done := by
    intro X hP hw hK hc i pins s σ H E I hf st hg
    subst hP hw hK
    obtain ⟨xs, hq, hx⟩ := hg
    obtain ⟨its, rv, p, hz⟩ := I.tuple hq
    obtain ⟨f0, f1, f2, f3, f4, f5⟩ := hf it (by simp)
    have hl := rv.length
    exact wpAny_pyNext_tuple_end (I.ok.hd hc) st (show s.heap.IsTuple a its.toArray from p) (by simp; omega) fun h' eb => ⟨rfl, I.turned (t' := s.toks) (fun b o hb e => eb b o hb e) f0 f1 f3 f4 f5⟩
  self := fun _ _ _ _ _ st h => wpAny_pyIter_tupleiter st h
theorem turn_range {P : Program} {w : World} {K : PySem.W.Frag} {tg : Expr} (it : Addr) (lo : Int) (n : Nat) : Turn P w K tg (Itr lo n) [it] it (fun i h => IsRangeIter h it (lo + (i : Nat) * 1) ((n : Int) - (i : Nat)) 1) where
  mem := by simp
  obj := fun i h st b hb => by
    have e : b = it := by simpa using hb
    subst e
    exact ⟨_, st, fun v z => by
      have z' : Data.fields _ = Data.cell v := z
      cases z'⟩
  keep := fun i h h' st k => k it (by simp) _ st
  item := by
    intro X hP hw hK hc i pins s σ H E I hf st hg
    subst hP hw hK
    obtain ⟨f0, f1, f2, f3, f4, f5⟩ := hf it (by simp)
    have W := Walks.range (prog := X.prog) (w := X.w) (I.ok.hd hc) it lo 1 n
    refine W.item i s _ _ hg st fun v h' tk hv st' kk => ?_
    obtain ⟨t, rfl⟩ := hv
    have I1 : Inv X pins σ H { s with heap := h', toks := tk } := I.turned (fun b o hb e => kk b o (by simpa using hb) e) f0 f1 f3 f4 f5
    refine ⟨_, rfl, go_of (s := { s with heap := h', toks := tk }) (n := "range_iterator") st' rfl rfl (by decide) ⟨.int (lo + i), H, I1, ⟨t, ?_⟩, ⟨rfl, rfl⟩, st', fun b hb => (hf b hb).1⟩⟩
    rw [Int.mul_one]
  done := by
    intro X hP hw hK hc i pins s σ H E I hf st hg
    subst hP hw hK
    obtain ⟨f0, f1, f2, f3, f4, f5⟩ := hf it (by simp)
    exact wpAny_pyNext_range_end (I.ok.hd hc) st (by have : n ≤ i := hg; omega) fun h' eb => ⟨rfl, I.turned (t' := s.toks) (fun b o hb e => eb b o hb e) f0 f1 f3 f4 f5⟩
  self := fun _ _ _ _ _ st h => wpAny_pyIter_rangeiter st h
end L2
namespace L2
open PySem PySem.Spec PyProof.Rows
section
variable {X : Cx} {tg : Expr}
def iList (K : PySem.W.Frag) (tl : TE) : TI := fun σ H R => tl σ H fun x H1 => ∃ a, x = .ref a ∧ (∃ xs, SqL K H1 a xs) ∧ R (Itl K a) H1
def iTup (K : PySem.W.Frag) (tl : TE) : TI := fun σ H R => tl σ H fun x H1 => ∃ a, x = .ref a ∧ (∃ xs, SqT K H1 a xs) ∧ R (Itt K a) H1
theorem pi_list {l : Expr} {tl : TE} (hl : PE X l tl) : PI X tg l (iList X.K tl) := by
  intro pins s σ H R I h
  refine thn (hl pins s σ H _ I h) fun v s1 ⟨x, H1, I1, r1, q1⟩ => ?_
  obtain ⟨a, e, ⟨xs, hq⟩, q⟩ := q1
  subst e
  cases r1
  obtain ⟨its, rv, p, hz⟩ := I1.list hq
  refine wpAny_pyIter_list p.isList ?_
  refine ⟨s1.heap.objs.size, [s1.heap.objs.size], _, _, H1, rfl, I1.kept (t' := s1.toks) fun b o e => Heap.get?_push_of_some _ e, turn_list a _, ⟨_, Heap.get?_push_size _ rfl, rfl, rfl⟩, fun b hb => ?_, q⟩
  have e : b = s1.heap.objs.size := by simpa using hb
  subst e
  exact I1.fpOk (Nat.le_refl _) (I1.hok.fresh (Nat.le_refl _))
theorem pi_tup {l : Expr} {tl : TE} (hl : PE X l tl) : PI X tg l (iTup X.K tl) := by
  intro pins s σ H R I h
  refine thn (hl pins s σ H _ I h) fun v s1 ⟨x, H1, I1, r1, q1⟩ => ?_
  obtain ⟨a, e, ⟨xs, hq⟩, q⟩ := q1
  subst e
  cases r1
  obtain ⟨its, rv, p, hz⟩ := I1.tuple hq
  refine wpAny_pyIter_tuple (show s1.heap.IsTuple a its.toArray from p) ?_
  refine ⟨s1.heap.objs.size, [s1.heap.objs.size], _, _, H1, rfl, I1.kept (t' := s1.toks) fun b o e => Heap.get?_push_of_some _ e, turn_tuple a _, ⟨_, Heap.get?_push_size _ rfl, rfl, rfl⟩, fun b hb => ?_, q⟩
  have e : b = s1.heap.objs.size := by simpa using hb
  subst e
  exact I1.fpOk (Nat.le_refl _) (I1.hok.fresh (Nat.le_refl _))
theorem range_it {pins : List (Addr × Obj)} {σ : St} {H : Hp} {s : Shared} {R : It → Hp → Prop} {E : Value → Shared → Prop} {lo hi : Int} {t u v : Tok} {tk : Nat} (I : Inv X pins σ H s) (h1 : -(2 ^ 62) ≤ lo) (h2 : lo < 2 ^ 62) (h3 : -(2 ^ 62) ≤ hi) (h4 : hi < 2 ^ 62)
    (q : R (Itr lo (hi - lo).toNat) H) : wpAny (model X.prog X.w) X.A (pyIter (.ref s.heap.objs.size)) (PIE X pins σ tg R) E { s with heap := s.heap.push { cls := .type "range", data := .fields #[.int lo t, .int hi u, .int 1 v] }, toks := tk } := by
  refine wpAny_pyIter_range (IsRange.new ..) (small_one h1 h2 h3 h4) ?_
  have I1 : Inv X pins σ H { s with heap := s.heap.push { cls := .type "range", data := .fields #[.int lo t, .int hi u, .int 1 v] }, toks := tk } := I.kept fun b o e => Heap.get?_push_of_some _ e
  refine ⟨(s.heap.push { cls := .type "range", data := .fields #[.int lo t, .int hi u, .int 1 v] }).objs.size, [(s.heap.push { cls := .type "range", data := .fields #[.int lo t, .int hi u, .int 1 v] }).objs.size], _, _, H, rfl,
    I1.kept (t' := tk) fun b o e => Heap.get?_push_of_some _ e, turn_range _ lo (hi - lo).toNat, ?_, fun b hb => ?_, q⟩
  · have e1 : lo + ((0 : Nat) : Int) * 1 = lo := by simp
    have e2 : (((hi - lo).toNat : Nat) : Int) - ((0 : Nat) : Int) = Builtin.Range.rangeSize lo hi 1 := by rw [rangeSize_one]; split <;> omega
    show IsRangeIter _ _ (lo + ((0 : Nat) : Int) * 1) ((((hi - lo).toNat : Nat) : Int) - ((0 : Nat) : Int)) 1
    rw [e1, e2]
    exact Heap.get?_push_size _ rfl
  · have e : b = (s.heap.push { cls := .type "range", data := .fields #[.int lo t, .int hi u, .int 1 v] }).objs.size := by simpa using hb
    subst e
    exact I1.fpOk (Nat.le_refl _) (I1.hok.fresh (Nat.le_refl _))
def iRng1 (ta : TA) : TI := fun σ H R => ta σ H fun vs H1 => ∃ j : Int, vs = [.int j] ∧ -(2 ^ 62) ≤ j ∧ j < 2 ^ 62 ∧ R (Itr 0 j.toNat) H1
theorem pi_range1 {a : Expr} {ta : TA} {p pos : Pos} (hg : Gl X "range") (hm : X.mg "range" = none) (ha : PA X [a] ta) (hs : starEach [a] X.env = [(false, eval a X.env)] := by rfl) : PI X tg (.Call (.Name "range" p) [a] [] pos) (iRng1 ta) := by
  intro pins s σ H R I h
  refine Call_ (ld_blt I hg hm boot_range (PyProof.Rows.callWith_type1 (thn (ha pos pins s σ H _ I h) fun us s1 ⟨vs, H1, I1, r1, q1⟩ => ?_) hs rfl))
  obtain ⟨j, e, q1, q2, q⟩ := q1
  subst e
  cases r1 with
  | cons r rr =>
    cases rr
    obtain ⟨t, rfl⟩ := r
    exact call_range_1 (range_it I1 (by omega) (by omega) q1 q2 (by simpa using q))
def tFor (wi : TI) (g : TG) (tb : TS) : TS := fun D σ H => wi σ H fun J H1 => ∃ W : Nat → Nat → St → Hp → Prop, (∃ m, W 0 m σ H1) ∧ ∀ i m σ H, W i m σ H →
  (J.stop i H ∧ D.nx σ H) ∨ (J.go i H ∧ ∃ N : St → Hp → Prop, (∀ σ' H', N σ' H' → ∃ m', m' < m ∧ W (i + 1) m' σ' H') ∧ ∀ x H', J.yld i H x H' → g x σ H' fun σ2 H2 => tb { D with nx := N, ct := N, bk := D.nx } σ2 H2)
def pinsAt (fp : List Addr) (h : Heap) : List (Addr × Obj) := fp.filterMap fun b => (h.get? b).map fun o => (b, o)
theorem mem_pinsAt {fp : List Addr} {h : Heap} {b : Addr} {o : Obj} (hb : b ∈ fp) (e : h.get? b = some o) : (b, o) ∈ pinsAt fp h := List.mem_filterMap.mpr ⟨b, hb, by rw [e]; rfl⟩
theorem of_pinsAt {fp : List Addr} {h : Heap} {p : Addr × Obj} (hp : p ∈ pinsAt fp h) : p.1 ∈ fp ∧ h.get? p.1 = some p.2 := by
  obtain ⟨b, hb, e⟩ := List.mem_filterMap.mp hp
  cases q : h.get? b with
  | none => rw [q] at e; cases e
  | some o =>
    rw [q] at e
    have e' : (b, o) = p := Option.some.inj e
    subst e'
    exact ⟨hb, q⟩
theorem Inv.pinned {pins : List (Addr × Obj)} {σ : St} {H : Hp} {s : Shared} {fp : List Addr} (I : Inv X pins σ H s) (hf : ∀ b ∈ fp, FpOk X pins H b) (ho : ∀ b ∈ fp, ∃ o, s.heap.get? b = some o ∧ ∀ v, o.data ≠ .cell v) : Inv X (pins ++ pinsAt fp s.heap) σ H s :=
  I.pins_of fun p hp => (List.mem_append.mp hp).elim (fun z => I.pin p (List.mem_append_right _ z)) fun z => by
    obtain ⟨hb, e⟩ := of_pinsAt z
    obtain ⟨f0, f1, f2, _⟩ := hf p.1 hb
    obtain ⟨o, e', d⟩ := ho p.1 hb
    rw [e] at e'; cases e'
    exact ⟨e, f0, f1, f2, d⟩
theorem Inv.unpinned {pins pl : List (Addr × Obj)} {σ : St} {H : Hp} {s : Shared} (I : Inv X (pins ++ pl) σ H s) : Inv X pins σ H s := I.pins_of fun p hp => I.pin p (List.mem_append_right _ (List.mem_append_left _ hp))
theorem ps_for {iter : Expr} {body : List Stmt} {wi : TI} {g : TG} {tb : TS} {pos : Pos} (hp : PassesOwn (model X.prog X.w) X.A X.env X.xe) (hc : X.calm = true) (hi : PI X tg iter wi) (hg : PG X tg g) (hb : PSs X body tb)
    (hs : ∀ x, foldedSetIterable iter X.env x = pure x := by intro _; rfl) : PS X (.For tg iter body [] pos) (tFor wi g tb) := by
  intro pins s σ H D I h
  refine wpAny_For (thn (hi pins s σ H _ I h) fun v s1 h1 => thn h1 fun itv s2 h2 => ?_) hs
  obtain ⟨it, fp, tn, J, H2, e, I2, T, st2, f2, W, ⟨m0, w0⟩, turn⟩ := h2
  subst e
  -- what stays true of the iterator's objects through the loop
  have stat : ∀ {H' : Hp}, (∀ b ∈ fp, H' b = none) → ∀ b ∈ fp, FpOk X pins H' b := fun hn b hb => ⟨hn b hb, (f2 b hb).2⟩
  refine codeAny_forLoop_any (fun n s' => ∃ i σ' H', Inv X pins σ' H' s' ∧ tn i s'.heap ∧ (∀ b ∈ fp, H' b = none) ∧ W i n σ' H') ?_ m0 ⟨0, σ, H2, I2, st2, fun b hb => (f2 b hb).1, w0⟩
  rintro n s3 ⟨i, σ3, H3, I3, st3, fr3, w3⟩
  rcases turn i n σ3 H3 w3 with ⟨stop, qn⟩ | ⟨go, N, hN, step⟩
  · refine wpAny_passesOwn hp (thn (T.done X rfl rfl rfl hc i pins s3 σ3 H3 X.xe I3 (stat fr3) st3 stop) fun r s4 ⟨hr, I4⟩ => ?_)
    subst hr
    exact wpAny_execs_nil ⟨σ3, H3, I4, qn⟩
  · refine wpAny_passesOwn hp (thn (T.item X rfl rfl rfl hc i pins s3 σ3 H3 X.xe I3 (stat fr3) st3 go) fun r s4 ⟨u, hr, h4⟩ => ?_)
    subst hr
    refine wpAny_passesOwn hp (thn h4 fun _ s5 ⟨x, H5, I5, r5, y5, st5, fr5⟩ => ?_)
    have I5' := I5.pinned (stat fr5) (T.obj _ _ st5)
    refine wpAny_passesOwn hp (thn (hg _ s5 σ3 H5 x u _ I5' r5 (step x H5 y5)) fun _ s6 ⟨σ6, H6, I6, q6⟩ => ?_)
    refine wpAny_passesOwn hp (thn (hb _ s6 σ6 H6 _ I6 q6) fun f s7 q7 => ?_)
    have again : ∀ {σ7 : St} {H7 : Hp}, Inv X (pins ++ pinsAt fp s5.heap) σ7 H7 s7 → N σ7 H7 → ∃ m, m < n ∧ ∃ i σ' H', Inv X pins σ' H' s7 ∧ tn i s7.heap ∧ (∀ b ∈ fp, H' b = none) ∧ W i m σ' H' := fun {σ7 H7} I7 n7 => by
      obtain ⟨m', hm, w7⟩ := hN σ7 H7 n7
      refine ⟨m', hm, i + 1, σ7, H7, I7.unpinned, T.keep _ _ _ st5 fun b hb o e => (I7.pin (b, o) (List.mem_append_right _ (List.mem_append_right _ (mem_pinsAt hb e)))).1, fun b hb => ?_, w7⟩
      obtain ⟨o, e, d⟩ := T.obj _ _ st5 b hb
      exact (I7.pin (b, o) (List.mem_append_right _ (List.mem_append_right _ (mem_pinsAt hb e)))).2.1
    cases f with
    | next => obtain ⟨σ7, H7, I7, n7⟩ := q7; exact again I7 n7
    | cont => obtain ⟨σ7, H7, I7, n7⟩ := q7; exact again I7 n7
    | brk => obtain ⟨σ7, H7, I7, q7⟩ := q7; exact ⟨σ7, H7, I7.unpinned, q7⟩
    | ret v => obtain ⟨x7, σ7, H7, I7, r7, q7⟩ := q7; exact ⟨x7, σ7, H7, I7.unpinned, r7, q7⟩
end
theorem for_list {K : PySem.W.Frag} {a : Addr} {xs : List V} {g : TG} {tb : TS} {D : Ends} {σ : St} {H : Hp} (Pv : Nat → St → Hp → Prop) (h0 : Pv 0 σ H) (hl : ∀ i σ H, i ≤ xs.length → Pv i σ H → SqL K H a xs)
    (hs : ∀ i x σ H, xs[i]? = some x → Pv i σ H → g x σ H fun σ2 H2 => tb { D with nx := Pv (i + 1), ct := Pv (i + 1), bk := D.nx } σ2 H2) (hd : ∀ σ H, Pv xs.length σ H → D.nx σ H) :
    ∃ W : Nat → Nat → St → Hp → Prop, (∃ m, W 0 m σ H) ∧ ∀ i m σ H, W i m σ H →
      ((Itl K a).stop i H ∧ D.nx σ H) ∨ ((Itl K a).go i H ∧ ∃ N : St → Hp → Prop, (∀ σ' H', N σ' H' → ∃ m', m' < m ∧ W (i + 1) m' σ' H') ∧ ∀ x H', (Itl K a).yld i H x H' → g x σ H' fun σ2 H2 => tb { D with nx := N, ct := N, bk := D.nx } σ2 H2) := by
  refine ⟨fun i m σ H => m = xs.length - i ∧ i ≤ xs.length ∧ Pv i σ H, ⟨xs.length, by simp, Nat.zero_le _, h0⟩, ?_⟩
  rintro i m σ H ⟨rfl, hi, p⟩
  have q := hl i σ H hi p
  by_cases hlt : i < xs.length
  · refine .inr ⟨⟨xs, xs[i], q, by simp [hlt]⟩, Pv (i + 1), fun σ' H' p' => ⟨xs.length - (i + 1), by omega, rfl, hlt, p'⟩, fun x H' y => ?_⟩
    obtain ⟨e, y⟩ := y
    subst e
    exact hs i x σ _ (y xs q) p
  · have e : i = xs.length := by omega
    subst e
    exact .inl ⟨⟨xs, q, Nat.le_refl _⟩, hd σ H p⟩
theorem for_range {lo : Int} {n : Nat} {g : TG} {tb : TS} {D : Ends} {σ : St} {H : Hp} (Pv : Nat → St → Hp → Prop) (h0 : Pv 0 σ H)
    (hs : ∀ i σ H, i < n → Pv i σ H → g (.int (lo + i)) σ H fun σ2 H2 => tb { D with nx := Pv (i + 1), ct := Pv (i + 1), bk := D.nx } σ2 H2) (hd : ∀ σ H, Pv n σ H → D.nx σ H) :
    ∃ W : Nat → Nat → St → Hp → Prop, (∃ m, W 0 m σ H) ∧ ∀ i m σ H, W i m σ H →
      ((Itr lo n).stop i H ∧ D.nx σ H) ∨ ((Itr lo n).go i H ∧ ∃ N : St → Hp → Prop, (∀ σ' H', N σ' H' → ∃ m', m' < m ∧ W (i + 1) m' σ' H') ∧ ∀ x H', (Itr lo n).yld i H x H' → g x σ H' fun σ2 H2 => tb { D with nx := N, ct := N, bk := D.nx } σ2 H2) := by
  refine ⟨fun i m σ H => m = n - i ∧ i ≤ n ∧ Pv i σ H, ⟨n, by simp, Nat.zero_le _, h0⟩, ?_⟩
  rintro i m σ H ⟨rfl, hi, p⟩
  by_cases hlt : i < n
  · refine .inr ⟨hlt, Pv (i + 1), fun σ' H' p' => ⟨n - (i + 1), by omega, rfl, hlt, p'⟩, fun x H' y => ?_⟩
    obtain ⟨e, y⟩ := y
    subst e y
    exact hs i σ _ hlt p
  · have e : i = n := by omega
    subst e
    exact .inl ⟨Nat.le_refl _, hd σ H p⟩
end L2
namespace L2
open PySem PySem.Spec PyProof.Rows
abbrev R2 := V → V → Hp → VK → Prop
def OpR (X : Cx) (f : Value → Value → Sem Value) (r : R2) : Prop :=
  ∀ (pins : List (Addr × Obj)) (s : Shared) (σ : St) (H : Hp) (x y : V) (v u : Value) (Q : VK), Inv X pins σ H s → RelV x v → RelV y u → r x y H Q →
    wpAny (model X.prog X.w) X.A (f v u) (EP X pins σ Q) X.xe s
def UnR (X : Cx) (f : Value → Sem Value) (r : V → Hp → VK → Prop) : Prop :=
  ∀ (pins : List (Addr × Obj)) (s : Shared) (σ : St) (H : Hp) (x : V) (v : Value) (Q : VK), Inv X pins σ H s → RelV x v → r x H Q →
    wpAny (model X.prog X.w) X.A (f v) (EP X pins σ Q) X.xe s
def CallR (X : Cx) (f : Value) (r : List V → Hp → VK → Prop) : Prop :=
  ∀ (pins : List (Addr × Obj)) (s : Shared) (σ : St) (H : Hp) (xs : List V) (us : List Value) (Q : VK), Inv X pins σ H s → Vals xs us → r xs H Q →
    wpAny (model X.prog X.w) X.A (call f us) (EP X pins σ Q) X.xe s
def tOp (r : R2) (ta tb : TE) : TE := fun σ H Q => ta σ H fun x H1 => tb σ H1 fun y H2 => r x y H2 Q
def tUn (r : V → Hp → VK → Prop) (ta : TE) : TE := fun σ H Q => ta σ H fun x H1 => r x H1 Q
def rI (C : Int → Int → Prop) (g : Int → Int → V) : R2 := fun x y H Q => ∃ i j, x = .int i ∧ y = .int j ∧ C i j ∧ Q (g i j) H
def rI0 (g : Int → Int → V) : R2 := fun x y H Q => ∃ i j, x = .int i ∧ y = .int j ∧ Q (g i j) H
def rU (g : Int → V) : V → Hp → VK → Prop := fun x H Q => ∃ i, x = .int i ∧ Q (g i) H
section
variable {X : Cx} {a b c : Expr} {ta tb tc : TE} {pos : Pos}
theorem binT (ha : PE X a ta) (hb : PE X b tb) {pins : List (Addr × Obj)} {s : Shared} {σ : St} {H : Hp} {R : V → V → Hp → Prop} (I : Inv X pins σ H s)
    (h : ta σ H fun x H1 => tb σ H1 fun y H2 => R x y H2) {Q : Value → Shared → Prop} {f : Value → Value → Sem Value}
    (hf : ∀ v u s2 x y H2, Inv X pins σ H2 s2 → RelV x v → RelV y u → R x y H2 → wpAny (model X.prog X.w) X.A (f v u) Q X.xe s2) :
    wpAny (model X.prog X.w) X.A (eval a X.env) (fun v s₁ => wpAny (model X.prog X.w) X.A (eval b X.env) (fun u s₂ => wpAny (model X.prog X.w) X.A (f v u) Q X.xe s₂) X.xe s₁) X.xe s := by
  refine thn (ha pins s σ H _ I h) fun v s1 ⟨x, H1, I1, r1, q1⟩ => ?_
  refine thn (hb pins s1 σ H1 _ I1 q1) fun u s2 ⟨y, H2, I2, r2, q2⟩ => ?_
  exact hf v u s2 x y H2 I2 r1 r2 q2
theorem pe_op {op : Operator} {r : R2} (ho : OpR X (binaryOp op) r) (ha : PE X a ta) (hb : PE X b tb) : PE X (.BinOp a op b pos) (tOp r ta tb) := by
  intro pins s σ H Q I h
  exact wpAny_BinOp (binT ha hb I h fun v u s2 x y H2 I2 rx ry q => ho pins s2 σ H2 x y v u Q I2 rx ry q)
theorem pe_un {op : UnaryOp} {r : V → Hp → VK → Prop} (ho : UnR X (unaryOp op) r) (ha : PE X a ta) : PE X (.UnaryOp op a pos) (tUn r ta) := by
  intro pins s σ H Q I h
  exact UnaryOp_ (thn (ha pins s σ H _ I h) fun v s1 ⟨x, H1, I1, r1, q1⟩ => ho pins s1 σ H1 x v Q I1 r1 q1)
theorem opI {f : Value → Value → Sem Value} {C : Int → Int → Prop} {g : Int → Int → Int}
    (rule : ∀ (i j : Int) (t u : Tok) (s : Shared) (Q : Value → Shared → Prop) (E : Value → Shared → Prop), C i j → Q (.int (g i j) s.toks) { s with toks := s.toks + 1 } → wpAny (model X.prog X.w) X.A (f (.int i t) (.int j u)) Q E s) :
    OpR X f (rI C fun i j => .int (g i j)) := by
  intro pins s σ H x y v u Q I rx ry h
  obtain ⟨i, j, rfl, rfl, hc, q⟩ := h
  obtain ⟨t, rfl⟩ := rx
  obtain ⟨t', rfl⟩ := ry
  exact rule i j t t' s _ _ hc ⟨.int (g i j), H, I.tok _, ⟨_, rfl⟩, q⟩
theorem opI0 {f : Value → Value → Sem Value} {g : Int → Int → Int}
    (rule : ∀ (i j : Int) (t u : Tok) (s : Shared) (Q : Value → Shared → Prop) (E : Value → Shared → Prop), Q (.int (g i j) s.toks) { s with toks := s.toks + 1 } → wpAny (model X.prog X.w) X.A (f (.int i t) (.int j u)) Q E s) :
    OpR X f (rI0 fun i j => .int (g i j)) := by
  intro pins s σ H x y v u Q I rx ry h
  obtain ⟨i, j, rfl, rfl, q⟩ := h
  obtain ⟨t, rfl⟩ := rx
  obtain ⟨t', rfl⟩ := ry
  exact rule i j t t' s _ _ ⟨.int (g i j), H, I.tok _, ⟨_, rfl⟩, q⟩
theorem opB0 {f : Value → Value → Sem Value} {g : Int → Int → Bool}
    (rule : ∀ (i j : Int) (t u : Tok) (s : Shared) (Q : Value → Shared → Prop) (E : Value → Shared → Prop), Q (.bool (g i j)) s → wpAny (model X.prog X.w) X.A (f (.int i t) (.int j u)) Q E s) :
    OpR X f (rI0 fun i j => .bl (g i j)) := by
  intro pins s σ H x y v u Q I rx ry h
  obtain ⟨i, j, rfl, rfl, q⟩ := h
  obtain ⟨t, rfl⟩ := rx
  obtain ⟨t', rfl⟩ := ry
  exact rule i j t t' s _ _ ⟨.bl (g i j), H, I, rfl, q⟩
def CDiv (i j : Int) : Prop := 0 < j ∧ j < 1073741824
def CPow (i j : Int) : Prop := 0 ≤ j ∧ j ≤ 1000000 ∧ i.natAbs < 2 ^ 64
def CMul (i j : Int) : Prop := (-(2 ^ 64) < i ∧ i < 2 ^ 64) ∨ (-(2 ^ 64) < j ∧ j < 2 ^ 64)
theorem CMul.ok {i j : Int} (h : CMul i j) : IntMulOk i j := by
  rcases h with ⟨h1, h2⟩ | ⟨h1, h2⟩
  · exact .of_left (intBits_le_64 h1 h2)
  · exact .of_right (intBits_le_64 h1 h2)
theorem op_add : OpR X (binaryOp .Add) (rI0 fun i j => .int (i + j)) := opI0 fun _ _ _ _ _ _ _ q => add_int q
theorem op_sub : OpR X (binaryOp .Sub) (rI0 fun i j => .int (i - j)) := opI0 fun _ _ _ _ _ _ _ q => sub_int q
theorem op_mul : OpR X (binaryOp .Mult) (rI CMul fun i j => .int (i * j)) := opI fun _ _ _ _ _ _ _ hc q => mul_int q hc.ok
theorem op_fdiv : OpR X (binaryOp .FloorDiv) (rI CDiv fun i j => .int (i / j)) := opI fun i j _ _ _ _ _ hc q => by
  have h1 : (0 : Int) < j := hc.1
  have h2 : j < 1073741824 := hc.2
  exact floordiv_int (by omega) (by rw [Int.fdiv_eq_ediv_of_nonneg i (by omega)]; exact q) (.inl (PyProof.noPylong_small (by omega)))
theorem op_mod : OpR X (binaryOp .Mod) (rI (fun _ j => 0 < j) fun i j => .int (i % j)) := opI fun i j _ _ _ _ _ hc q => by
  have h1 : (0 : Int) < j := hc
  exact mod_int' (by omega) (by rw [Int.fmod_eq_emod_of_nonneg i (by omega)]; exact q)
theorem op_pow : OpR X (binaryOp .Pow) (rI CPow fun i j => .int (i ^ j.toNat)) := opI fun _ _ _ _ _ _ _ hc q => pow_int_small hc.1 hc.2.1 hc.2.2 q
theorem unI {f : Value → Sem Value} {g : Int → Int}
    (rule : ∀ (i : Int) (t : Tok) (s : Shared) (Q : Value → Shared → Prop) (E : Value → Shared → Prop), Q (.int (g i) s.toks) { s with toks := s.toks + 1 } → wpAny (model X.prog X.w) X.A (f (.int i t)) Q E s) :
    UnR X f (rU fun i => .int (g i)) := by
  intro pins s σ H x v Q I rx h
  obtain ⟨i, rfl, q⟩ := h
  obtain ⟨t, rfl⟩ := rx
  exact rule i t s _ _ ⟨.int (g i), H, I.tok _, ⟨_, rfl⟩, q⟩
theorem un_neg : UnR X (unaryOp .USub) (rU fun i => .int (-i)) := unI fun _ _ _ _ _ q => neg_int q
end
def scal : V → V → Bool
  | .non, .non => true | .non, .int _ => true | .int _, .non => true | .non, .bl _ => true | .bl _, .non => true | .non, .str _ => true | .str _, .non => true
  | .int _, .int _ => true | .bl _, .bl _ => true | .str _, .str _ => true | .byt _, .byt _ => true
  | .int _, .str _ => true | .str _, .int _ => true | .bl _, .str _ => true | .str _, .bl _ => true
  | _, _ => false
def rEq : R2 := fun x y H Q => scal x y = true ∧ Q (.bl (decide (x = y))) H
def rNe : R2 := fun x y H Q => scal x y = true ∧ Q (.bl (!decide (x = y))) H
theorem dec_int {i j : Int} : decide (V.int i = V.int j) = (i == j) := by
  rw [Bool.eq_iff_iff]
  simp
theorem dec_bl {i j : Bool} : decide (V.bl i = V.bl j) = (i == j) := by
  rw [Bool.eq_iff_iff]
  simp
theorem dec_str {i j : Str} : decide (V.str i = V.str j) = (i == j) := by
  rw [Bool.eq_iff_iff]
  simp
theorem dec_byt {i j : Array UInt8} : decide (V.byt i = V.byt j) = (i.toList == j.toList) := by
  rw [Bool.eq_iff_iff]
  cases i
  cases j
  simp
section
variable {X : Cx} {a b c : Expr} {ta tb tc : TE} {pos : Pos}
theorem fin_bl {pins : List (Addr × Obj)} {σ : St} {H : Hp} {s : Shared} {Q : VK} {k k' : Bool} (I : Inv X pins σ H s) (q : Q (.bl k) H) (e : k = k') : EP X pins σ Q (.bool k') s := by
  subst e
  exact ⟨.bl k, H, I, rfl, q⟩
theorem op_eq : OpR X (compareOp .Eq) rEq := by
  intro pins s σ H x y v u Q I rx ry h
  obtain ⟨hs, q⟩ := h
  cases x with
  | non =>
    cases rx
    cases y with
    | non => cases ry; exact PySem.EqNone.eq_none_none (fin_bl I q (by simp))
    | bl j => cases ry; exact PySem.EqNone.eq_none_bool (fin_bl I q (by simp))
    | int j => obtain ⟨t', rfl⟩ := ry; exact PySem.EqNone.eq_none_int (fin_bl I q (by simp))
    | str j => obtain ⟨t', rfl⟩ := ry; exact PySem.EqNone.eq_none_str (fin_bl I q (by simp))
    | _ => exact absurd (show false = true from hs) Bool.false_ne_true
  | bl i =>
    cases rx
    cases y with
    | non => cases ry; exact PySem.EqNone.eq_bool_none (fin_bl I q (by simp))
    | bl j => cases ry; exact eq_bool (fin_bl I q dec_bl)
    | str j => obtain ⟨t', rfl⟩ := ry; exact PySem.EqMixed.eq_bool_str (fin_bl I q (by simp))
    | _ => exact absurd (show false = true from hs) Bool.false_ne_true
  | int i =>
    obtain ⟨t, rfl⟩ := rx
    cases y with
    | non => cases ry; exact PySem.EqNone.eq_int_none (fin_bl I q (by simp))
    | int j => obtain ⟨t', rfl⟩ := ry; exact eq_int (fin_bl I q dec_int)
    | str j => obtain ⟨t', rfl⟩ := ry; exact PySem.EqMixed.eq_int_str (fin_bl I q (by simp))
    | _ => exact absurd (show false = true from hs) Bool.false_ne_true
  | str i =>
    obtain ⟨t, rfl⟩ := rx
    cases y with
    | non => cases ry; exact PySem.EqNone.eq_str_none (fin_bl I q (by simp))
    | bl j => cases ry; exact PySem.EqMixed.eq_str_bool (fin_bl I q (by simp))
    | int j => obtain ⟨t', rfl⟩ := ry; exact PySem.EqMixed.eq_str_int (fin_bl I q (by simp))
    | str j => obtain ⟨t', rfl⟩ := ry; exact eq_str (fin_bl I q dec_str)
    | _ => exact absurd (show false = true from hs) Bool.false_ne_true
  | byt i =>
    obtain ⟨t, rfl⟩ := rx
    cases y with
    | byt j => obtain ⟨t', rfl⟩ := ry; exact PySem.W.eq_bytes (fin_bl I q dec_byt)
    | _ => exact absurd (show false = true from hs) Bool.false_ne_true
  | _ => cases y <;> exact absurd (show false = true from hs) Bool.false_ne_true
theorem op_ne : OpR X (compareOp .NotEq) rNe := by
  intro pins s σ H x y v u Q I rx ry h
  obtain ⟨hs, q⟩ := h
  cases x with
  | non =>
    cases rx
    cases y with
    | non => cases ry; exact PySem.EqNone.ne_none_none (fin_bl I q (by simp))
    | bl j => cases ry; exact PySem.EqNone.ne_none_bool (fin_bl I q (by simp))
    | int j => obtain ⟨t', rfl⟩ := ry; exact PySem.EqNone.ne_none_int (fin_bl I q (by simp))
    | str j => obtain ⟨t', rfl⟩ := ry; exact PySem.EqNone.ne_none_str (fin_bl I q (by simp))
    | _ => exact absurd (show false = true from hs) Bool.false_ne_true
  | bl i =>
    cases rx
    cases y with
    | non => cases ry; exact PySem.EqNone.ne_bool_none (fin_bl I q (by simp))
    | bl j => cases ry; exact ne_bool (fin_bl I q (congrArg not dec_bl))
    | str j => obtain ⟨t', rfl⟩ := ry; exact PySem.EqMixed.ne_bool_str (fin_bl I q (by simp))
    | _ => exact absurd (show false = true from hs) Bool.false_ne_true
  | int i =>
    obtain ⟨t, rfl⟩ := rx
    cases y with
    | non => cases ry; exact PySem.EqNone.ne_int_none (fin_bl I q (by simp))
    | int j => obtain ⟨t', rfl⟩ := ry; exact ne_int (fin_bl I q (congrArg not dec_int))
    | str j => obtain ⟨t', rfl⟩ := ry; exact PySem.EqMixed.ne_int_str (fin_bl I q (by simp))
    | _ => exact absurd (show false = true from hs) Bool.false_ne_true
  | str i =>
    obtain ⟨t, rfl⟩ := rx
    cases y with
    | non => cases ry; exact PySem.EqNone.ne_str_none (fin_bl I q (by simp))
    | bl j => cases ry; exact PySem.EqMixed.ne_str_bool (fin_bl I q (by simp))
    | int j => obtain ⟨t', rfl⟩ := ry; exact PySem.EqMixed.ne_str_int (fin_bl I q (by simp))
    | str j => obtain ⟨t', rfl⟩ := ry; exact ne_str (fin_bl I q (congrArg not dec_str))
    | _ => exact absurd (show false = true from hs) Bool.false_ne_true
  | byt i =>
    obtain ⟨t, rfl⟩ := rx
    cases y with
    | byt j => obtain ⟨t', rfl⟩ := ry; exact PySem.W.ne_bytes (fin_bl I q (congrArg not dec_byt))
    | _ => exact absurd (show false = true from hs) Bool.false_ne_true
  | _ => cases y <;> exact absurd (show false = true from hs) Bool.false_ne_true
theorem op_lt : OpR X (compareOp .Lt) (rI0 fun i j => .bl (decide (i < j))) := opB0 fun _ _ _ _ _ _ _ q => lt_int q
theorem op_le : OpR X (compareOp .LtE) (rI0 fun i j => .bl (decide (i ≤ j))) := opB0 fun _ _ _ _ _ _ _ q => le_int q
theorem op_gt : OpR X (compareOp .Gt) (rI0 fun i j => .bl (decide (j < i))) := opB0 fun _ _ _ _ _ _ _ q => gt_int q
theorem op_ge : OpR X (compareOp .GtE) (rI0 fun i j => .bl (decide (j ≤ i))) := opB0 fun _ _ _ _ _ _ _ q => ge_int q
theorem op_isN : OpR X (compareOp .Is) (fun x y H Q => y = .non ∧ Q (.bl (decide (x = .non))) H) := by
  intro pins s σ H x y v u Q I rx ry h
  obtain ⟨rfl, q⟩ := h
  cases ry
  refine is_none_gen (fin_bl I q ?_)
  cases x <;> first
    | (cases rx; rfl)
    | (obtain ⟨t, rfl⟩ := rx; rfl)
theorem nomark (b : Expr) {op : CmpOp} (h : op ≠ .In := by decide) (h2 : op ≠ .NotIn := by decide) : behindInMarks op b = false := by
  have e1 : (op == CmpOp.In) = false := by cases op <;> first | rfl | exact absurd rfl h
  have e2 : (op == CmpOp.NotIn) = false := by cases op <;> first | rfl | exact absurd rfl h2
  cases b <;> simp [behindInMarks, e1, e2]
theorem pe_cmpR {op : CmpOp} {r : R2} (ho : OpR X (compareOp op) r) (ha : PE X a ta) (hb : PE X b tb) (hm : behindInMarks op b = false) : PE X (.Compare a [op] [b] pos) (tOp r ta tb) := by
  intro pins s σ H Q I h
  exact wpAny_Compare1 (binT ha hb I h fun v u s2 x y H2 I2 rx ry q => ho pins s2 σ H2 x y v u Q I2 rx ry q) hm
def tTest (t : TE) : TT := fun σ H Q => t σ H fun x H' => ∃ k, x = .bl k ∧ Q k H'
theorem pt_cmpR {op : CmpOp} {r : R2} (ho : OpR X (compareOp op) r) (ha : PE X a ta) (hb : PE X b tb) (hm : behindInMarks op b = false) : PT X (.Compare a [op] [b] pos) (tTest (tOp r ta tb)) := by
  intro pins s σ H Q I h
  refine wpAny_isTrue_Compare1 (thn (ha pins s σ H _ I h) fun v s1 ⟨x, H1, I1, r1, q1⟩ => thn (hb pins s1 σ H1 _ I1 q1) fun u s2 ⟨y, H2, I2, r2, q2⟩ =>
    thn (ho pins s2 σ H2 x y v u _ I2 r1 r2 q2) fun c s3 ⟨z, H3, I3, r3, k, e, q3⟩ => ?_) hm
  subst e
  cases r3
  exact wpAny_truthy_bool ⟨H3, I3, q3⟩
def tChain (r r' : R2) (ta tb tc : TE) : TE := fun σ H Q => ta σ H fun x H1 => tb σ H1 fun y H2 => r x y H2 fun z H3 => ∃ k, z = .bl k ∧
  (if k = true then tc σ H3 fun w' H4 => r' y w' H4 Q else Q (.bl false) H3)
theorem pt_chain {op op' : CmpOp} {r r' : R2} (ho : OpR X (compareOp op) r) (ho' : OpR X (compareOp op') r') (ha : PE X a ta) (hb : PE X b tb) (hc : PE X c tc)
    (hm : lastMarks [op, op'] [b, c] = false := by with_unfolding_all rfl) : PT X (.Compare a [op, op'] [b, c] pos) (tTest (tChain r r' ta tb tc)) := by
  intro pins s σ H Q I h
  refine isTrue_chain (thn (ha pins s σ H _ I h) fun v s1 ⟨x, H1, I1, r1, q1⟩ => test_link (thn (hb pins s1 σ H1 _ I1 q1) fun u s2 ⟨y, H2, I2, r2, q2⟩ =>
    thn (ho pins s2 σ H2 x y v u _ I2 r1 r2 q2) fun d s3 ⟨z, H3, I3, r3, k, e, q3⟩ => ?_)) hm
  subst e
  cases r3
  refine wpAny_truthy_bool ?_
  cases k with
  | false =>
    obtain ⟨k', e', q'⟩ := q3
    cases e'
    exact ite_ff ⟨H3, I3, q'⟩
  | true =>
    refine ite_tt (test_last (thn (hc pins s3 σ H3 _ I3 q3) fun w' s4 ⟨z', H4, I4, r4, q4⟩ => thn (ho' pins s4 σ H4 y z' u w' _ I4 r2 r4 q4) fun d' s5 ⟨z2, H5, I5, r5, k2, e2, q5⟩ => ?_))
    subst e2
    cases r5
    exact wpAny_truthy_bool ⟨H5, I5, q5⟩
theorem line63 : (sizeLine : Nat) < 2 ^ 63 := by rw [sizeLine_eq]; decide
theorem op_add_str : OpR X (binaryOp .Add) (fun x y H Q => ∃ i j, x = .str i ∧ y = .str j ∧ i.length + j.length ≤ sizeLine ∧ Q (.str (i ++ j)) H) := by
  intro pins s σ H x y v u Q I rx ry h
  obtain ⟨i, j, rfl, rfl, hz, q⟩ := h
  obtain ⟨t, rfl⟩ := rx
  obtain ⟨t', rfl⟩ := ry
  exact add_str (fun t' tk => ⟨.str (i ++ j), H, I.tok _, ⟨_, rfl⟩, q⟩) hz
def PlainIxT (b : Expr) : Prop := ∀ o i, subscripted b false o i = operate [o, i] (getItem o i)
theorem pe_item_str (ha : PE X a ta) (hb : PE X b tb) (hs : PlainIxT b) :
    PE X (.Subscript a b pos) (tOp (fun x y H Q => ∃ z i c, x = .str z ∧ y = .int i ∧ 0 ≤ i ∧ i < 2 ^ 63 ∧ i < z.length ∧ z.cps[i.toNat]? = some c ∧ Q (.str ⟨#[c]⟩) H) ta tb) := by
  intro pins s σ H Q I h
  refine Subscript_ (binT ha hb I h fun v u s2 x y H2 I2 rx ry q => ?_)
  obtain ⟨z, i, c, rfl, rfl, h0, h63, h1, hc, q⟩ := q
  obtain ⟨t, rfl⟩ := rx
  obtain ⟨t', rfl⟩ := ry
  have e : seqIndex? i z.length = some i.toNat := PySem.StrLaws.seqIndex_nonneg h0 h1
  exact tail_any (typeIs_str s2 z t) slot_str_getitem.lookup (getItem_str (c := c) (by
    have e1 : decide (i < -(2 ^ 63 : Int)) = false := decide_eq_false (by omega)
    have e2 : decide (i ≥ 2 ^ 63) = false := decide_eq_false (by omega)
    rw [e1, e2] <;> rfl) (by rw [e]; exact hc) ⟨.str ⟨#[c]⟩, H2, I2.tok _, ⟨_, rfl⟩, q⟩) (hs _ _)
theorem vals1 {x : V} {us : List Value} (r : Vals [x] us) : ∃ u, us = [u] ∧ RelV x u := by
  cases r with
  | cons r1 r2 => cases r2; exact ⟨_, rfl, r1⟩
theorem vals2 {x y : V} {us : List Value} (r : Vals [x, y] us) : ∃ u w', us = [u, w'] ∧ RelV x u ∧ RelV y w' := by
  cases r with
  | cons r1 r2 =>
    cases r2 with
    | cons r3 r4 => cases r4; exact ⟨_, _, rfl, r1, r3⟩
theorem call_abs : CallR X (.builtin "abs") (fun xs H Q => ∃ i, xs = [.int i] ∧ Q (.int (if i < 0 then -i else i)) H) := by
  intro pins s σ H xs us Q I r h
  obtain ⟨i, rfl, q⟩ := h
  obtain ⟨u, rfl, t, rfl⟩ := vals1 r
  exact call_abs_int fun u tk => ⟨.int (if i < 0 then -i else i), H, I.tok _, ⟨_, rfl⟩, q⟩
theorem call_min2 (hc : X.calm = true) : CallR X (.builtin "min") (fun xs H Q => ∃ i j, xs = [.int i, .int j] ∧ Q (.int (if j < i then j else i)) H) := by
  intro pins s σ H xs us Q I r h
  obtain ⟨i, j, rfl, q⟩ := h
  obtain ⟨u, w', rfl, ⟨t, rfl⟩, ⟨t', rfl⟩⟩ := vals2 r
  refine min_two_ints (I.ok.hd hc) fun h' tk k => ⟨_, H, I.kept k, ?_, q⟩
  by_cases hj : j < i
  · rw [if_pos hj, if_pos hj]; exact ⟨_, rfl⟩
  · rw [if_neg hj, if_neg hj]; exact ⟨_, rfl⟩
theorem call_int1 : CallR X (.type "int") (fun xs H Q => (∃ i, xs = [.int i] ∧ Q (.int i) H) ∨ ∃ k, xs = [.bl k] ∧ Q (.int (if k then 1 else 0)) H) := by
  intro pins s σ H xs us Q I r h
  rcases h with ⟨i, rfl, q⟩ | ⟨k, rfl, q⟩
  · obtain ⟨u, rfl, t, rfl⟩ := vals1 r
    exact call_int_int ⟨.int i, H, I, ⟨_, rfl⟩, q⟩
  · obtain ⟨u, rfl, r1⟩ := vals1 r
    cases r1
    exact call_int_bool ⟨.int (if k then 1 else 0), H, I.tok _, ⟨_, rfl⟩, q⟩
end
end L2
namespace L2
open PySem PySem.Spec PyProof.Rows
structure ObjM (h : Heap) (x dx C : Addr) (mA : Str → Option Value) : Prop where
  obj : h.get? x = some (PySem.W.instObj C dx)
  ns : h.Ns1 dx mA
  ne : dx ≠ x
theorem lookIn_ns {h : Heap} {dx : Addr} {mA : Str → Option Value} (n : h.Ns1 dx mA) : ∃ od, h.get? dx = some od ∧ ∀ name, PySem.W.lookIn name od = some (mA name) := by
  obtain ⟨o, es, ep, ho, hd, hk, _, hm⟩ := n
  refine ⟨o, ho, fun name => ?_⟩
  have e := hm name
  unfold nsFind findBy at e
  rw [← Array.find?_toList] at e
  unfold PySem.W.lookIn
  rw [hd]
  dsimp only
  split
  · rename_i y q
    rw [q] at e
    exact congrArg some e
  · rename_i q
    rw [q] at e
    have a : es.toList.any (·.refKey) = false := by
      rw [List.any_eq_false]
      intro y hy
      obtain ⟨z, t, hkey⟩ := hk y (Array.mem_toList_iff.mp hy)
      simp [DictEntry.refKey, hkey]
    have a' : ¬ es.toList.any (·.refKey) = true := by rw [a]; exact Bool.false_ne_true
    rw [if_neg a']
    exact congrArg some e
theorem ObjM.look {h : Heap} {x dx C : Addr} {mA : Str → Option Value} (I : ObjM h x dx C mA) : ∃ od, PySem.W.InstAt h x (PySem.W.instObj C dx) C (some od) ∧ ∀ name, PySem.W.lookIn name od = some (mA name) :=
  let ⟨od, ho, hl⟩ := lookIn_ns I.ns
  ⟨od, ⟨I.obj, rfl, rfl, ho⟩, hl⟩
section
variable {prog : Program} {w : World} {A : Around} {E : Value → Shared → Prop} {s : Shared} {K : PySem.W.Frag} {x dx C f : Addr} {mA : Str → Option Value} {name : Str} {v : Value}
theorem get_map {expr : Bool} {Q : Value → Shared → Prop} (X : K.In s.heap) (I : ObjM s.heap x dx C mA) (hg : PySem.W.plainGet K C name = true) (hh : PySem.W.hasDictIn K C = true)
    (ha : PySem.W.findIn K (.ref C) name = some none) (hv : mA name = some v) (hv' : PySem.W.handedIn v = true) (h : Q v { s with toks := s.toks + 1 }) :
    wpAny (model prog w) A (getAttr (.ref x) name expr) Q E s := by
  obtain ⟨od, J, hl⟩ := I.look
  exact PySem.W.get_value X J (PySem.W.plainGet_of hg).1 (PySem.W.findObj_own hh ha rfl (by rw [hl, hv])) hv' h
theorem get_meth {pl : Sem Bool} {Q : Value × List Value → Shared → Prop} (X : K.In s.heap) (I : ObjM s.heap x dx C mA) (hg : PySem.W.plainGet K C name = true)
    (hf : PySem.W.findIn K (.ref C) name = some (some (.ref f))) (ht : PySem.W.isFn K (.ref f) = true) (hv : mA name = none) (h : Q (.ref f, [.ref x]) s) :
    wpAny (model prog w) A (getMethod (.ref x) name pl) Q E s := by
  obtain ⟨od, J, hl⟩ := I.look
  exact PySem.W.method_fn X J (PySem.W.plainGet_of hg).1 (PySem.W.plainGet_of hg).2 hf (beq_iff_eq.mp ht) (by show (PySem.W.lookIn name od).map (·.isSome) = some false; rw [hl, hv]; rfl) h
theorem set_map {ns : List Str} {Q : Unit → Shared → Prop} (X : K.In s.heap) (I : ObjM s.heap x dx C mA)
    (hs : PySem.W.findIn K (.ref C) "__setattr__" = some (some (.builtin "object.__setattr__"))) (hp : PySem.W.plainOver K C = true) (ht : PySem.W.takerIn K C name = some none) (hh : PySem.W.hasDictIn K C = true)
    (hw : PySem.Within mA ns) (hsz : ns.length ≤ sizeLine)
    (h : ∀ h', ObjM h' x dx C (fun y => if y = name then some v else mA y) → Heap.SameBut dx s.heap h' → Q () { s with heap := h', toks := s.toks + 2 }) :
    wpAny (model prog w) A (setAttr (.ref x) name v) Q E s := by
  obtain ⟨od, J, hl⟩ := I.look
  refine PySem.W.set_plain X J hs (PySem.W.osa_open (s := { s with toks := s.toks + 1 }) (r := none) X J hp ht fun b => ?_)
  obtain ⟨cd, hc, hd'⟩ := PySem.W.any_some hh
  have hx : s.heap.get? x = some ⟨.ref C, some dx, .plain, #[]⟩ := I.obj
  refine wpAny_bind (wpAny_pure (wpAny_bind (wpAny_bind (wpAny_loadPart hx (wpAny_bind (PySem.W.Looks.here (s := { s with toks := s.toks + 1 }) (PySem.W.looks_clsIn X hc) ?_))))))
  rw [hd']
  refine wpAny_pure (a := some dx) (wpAny_bind (wpAny_pure (wpAny_bind ?_)))
  refine wpAny_nsSet1 (s := { s with toks := s.toks + 1 }) I.ns fun h' hn2 hs2 => ?_
  obtain ⟨oD, esD, epD, hoD, hdD, hcD⟩ := hn2.count (PySem.Within.cons name v hw)
  refine wpAny_bind (wpAny_lookBehind hoD (by rw [hdD]; exact pastItsLine_dict (Nat.le_trans hcD (by rw [List.length_cons]; omega))) ?_)
  exact wpAny_pure (h _ ⟨(hs2.2 _ (Ne.symm I.ne)).trans I.obj, hn2, I.ne⟩ hs2)
theorem make_map {R : Result → Shared → Prop} {vs : List Value} {kw : List (Str × Value)} (X : K.In s.heap) (hm : PySem.W.makesIn K C = true)
    (hi : PySem.W.findIn K (.ref C) "__init__" = some (some (.ref f))) (hf : PySem.W.typeIn K (.ref f) = some (.type "function"))
    (h : codeAny (model prog w) (A.under (.builtin "type.__call__" ⟨.ref C :: vs, kw⟩)) (.call (.ref f) ⟨.ref (s.heap.objs.size + 1) :: vs, kw⟩) (PySem.W.InitBack (s.heap.objs.size + 1) R)
      { s with heap := (s.heap.push PySem.W.emptyDict).push (PySem.W.instObj C s.heap.objs.size) }) :
    codeAny (model prog w) A (.call (.ref C) ⟨vs, kw⟩) R s := by
  obtain ⟨hh, g, d, t, os⟩ := s
  exact PySem.W.make_core (PySem.W.makes_of X hm) (PySem.W.looks_findIn X hi) (fun self => PySem.W.bind_fn X self hf) (.inl rfl) h
end
def putF (f : Str) (v : V) : List (Str × V) → List (Str × V)
  | [] => [(f, v)]
  | (g, x) :: r => if g = f then (g, v) :: r else (g, x) :: putF f v r
theorem lookup_putF (f g : Str) (v : V) : ∀ fs : List (Str × V), (putF f v fs).lookup g = if g = f then some v else fs.lookup g
  | [] => by
    show List.lookup g [(f, v)] = _
    by_cases h : g = f
    · have hb : (g == f) = true := beq_iff_eq.mpr h
      simp only [List.lookup, hb, if_pos h]
    · have hb : (g == f) = false := beq_eq_false_iff_ne.mpr h
      simp only [List.lookup, hb, if_neg h]
  | (k, x) :: r => by
    have ih := lookup_putF f g v r
    rw [show putF f v ((k, x) :: r) = (if k = f then (k, v) :: r else (k, x) :: putF f v r) from rfl]
    by_cases hk : k = f
    · rw [if_pos hk]
      by_cases h : g = k
      · have hb : (g == k) = true := beq_iff_eq.mpr h
        simp only [List.lookup, hb, if_pos (h.trans hk)]
      · have hb : (g == k) = false := beq_eq_false_iff_ne.mpr h
        simp only [List.lookup, hb, if_neg (fun e : g = f => h (e.trans hk.symm))]
    · rw [if_neg hk]
      by_cases h : g = k
      · have hb : (g == k) = true := beq_iff_eq.mpr h
        simp only [List.lookup, hb, if_neg (fun e : g = f => hk (h.symm.trans e))]
      · have hb : (g == k) = false := beq_eq_false_iff_ne.mpr h
        simp only [List.lookup, hb]
        exact ih
theorem keys_putF (f : Str) (v : V) : ∀ fs : List (Str × V), f ∈ (putF f v fs).map (·.1) ∧ ∀ g, g ∈ fs.map (·.1) → g ∈ (putF f v fs).map (·.1)
  | [] => ⟨by simp [putF], fun g h => by simp at h⟩
  | (k, x) :: r => by
    obtain ⟨i1, i2⟩ := keys_putF f v r
    rw [show putF f v ((k, x) :: r) = (if k = f then (k, v) :: r else (k, x) :: putF f v r) from rfl]
    by_cases hk : k = f
    · rw [if_pos hk]
      subst hk
      exact ⟨by simp, fun g h => by simpa using h⟩
    · rw [if_neg hk]
      refine ⟨?_, fun g h => ?_⟩
      · rw [List.map_cons]
        exact List.mem_cons_of_mem _ i1
      · rw [List.map_cons] at h ⊢
        rcases List.mem_cons.mp h with e | e
        · exact List.mem_cons.mpr (.inl e)
        · exact List.mem_cons_of_mem _ (i2 g e)
theorem length_putF (f : Str) (v : V) : ∀ fs : List (Str × V), (putF f v fs).length ≤ fs.length + 1
  | [] => by simp [putF]
  | (k, x) :: r => by
    have ih := length_putF f v r
    rw [show putF f v ((k, x) :: r) = (if k = f then (k, v) :: r else (k, x) :: putF f v r) from rfl]
    by_cases hk : k = f
    · rw [if_pos hk, List.length_cons, List.length_cons]; omega
    · rw [if_neg hk, List.length_cons, List.length_cons]; omega
theorem RelO.some_of {v : V} {o : Option Value} (r : RelO (some v) o) : ∃ u, o = some u ∧ RelV v u := by
  cases o with
  | none => exact (show False from r).elim
  | some u => exact ⟨u, rfl, r⟩
theorem RelO.none_of {o : Option Value} (r : RelO none o) : o = none := by
  cases o with
  | none => rfl
  | some u => exact (show False from r).elim
theorem handed_of {v : V} {u : Value} (r : RelV v u) : PySem.W.handedIn u = true := by
  cases v with
  | non => cases (show u = Value.none from r); rfl
  | bl b => cases (show u = Value.bool b from r); rfl
  | int i => obtain ⟨t, e⟩ := (show ∃ t, u = Value.int i t from r); cases e; rfl
  | str x => obtain ⟨t, e⟩ := (show ∃ t, u = Value.str x t from r); cases e; rfl
  | byt b => obtain ⟨t, e⟩ := (show ∃ t, u = Value.bytes b t from r); cases e; rfl
  | flt b => obtain ⟨t, e⟩ := (show ∃ t, u = Value.float b t from r); cases e; rfl
  | ref a => cases (show u = Value.ref a from r); rfl
  | ty n => cases (show u = Value.type n from r); rfl
section
variable {P : Program} {w : World} {H H' : Hp} {h h' : Heap} {a C dx : Addr} {fs fs' : List (Str × V)}
theorem ins_get (hok : HOk P w H h) (e : H a = some (.ins C dx fs)) : ∃ mA, ObjM h a dx C mA ∧ (∀ f, RelO (fs.lookup f) (mA f)) ∧ PySem.Within mA (fs.map (·.1)) ∧ fs.length ≤ 1000 ∧ H dx = some (.own a) := by
  obtain ⟨d, z, ne, ob, mA, n, r, q⟩ := (show ObjOk P w H h a (.ins C dx fs) from hok a _ e)
  exact ⟨mA, ⟨ob, n, ne⟩, r, q, z, d⟩
end
structure Cls (K : PySem.W.Frag) (C : Addr) : Prop where
  pg : PySem.W.plainGet K C Str.empty = true
  hd : PySem.W.hasDictIn K C = true
  po : PySem.W.plainOver K C = true
  sa : PySem.W.findIn K (.ref C) "__setattr__" = some (some (.builtin "object.__setattr__"))
theorem Cls.get {K : PySem.W.Frag} {C : Addr} (c : Cls K C) (f : Str) : PySem.W.plainGet K C f = true := c.pg
def NoAttr (K : PySem.W.Frag) (C : Addr) (f : Str) : Prop := PySem.W.findIn K (.ref C) f = some none
theorem NoAttr.taker {K : PySem.W.Frag} {C : Addr} {f : Str} (n : NoAttr K C f) : PySem.W.takerIn K C f = some none := by
  unfold PySem.W.takerIn
  rw [show PySem.W.findIn K (.ref C) f = some none from n]
  rfl
structure Meth (K : PySem.W.Frag) (C : Addr) (m : Str) (f : Addr) : Prop where
  at_ : PySem.W.findIn K (.ref C) m = some (some (.ref f))
  fn : PySem.W.isFn K (.ref f) = true
  kp : PySem.W.keepIn K (.ref f) = true
section
variable {X : Cx} {pins : List (Addr × Obj)} {σ : St} {H : Hp} {s : Shared} {a C dx : Addr} {fs : List (Str × V)} {f : Str} {v : V} {A : Around} {E : Value → Shared → Prop}
theorem getattr_ok {b : Bool} {Q : Value → Shared → Prop} (I : Inv X pins σ H s) (e : H a = some (.ins C dx fs)) (c : Cls X.K C) (n : NoAttr X.K C f) (l : fs.lookup f = some v)
    (h : ∀ u s', Inv X pins σ H s' → RelV v u → Q u s') : wpAny (model X.prog X.w) A (getAttr (.ref a) f b) Q E s := by
  obtain ⟨mA, O, r, _, _, _⟩ := ins_get I.hok e
  obtain ⟨u, hu, ru⟩ := RelO.some_of (v := v) (o := mA f) (by rw [← l]; exact r f)
  exact get_map I.kIn O (c.get f) c.hd n hu (handed_of ru) (h u _ (I.tok _) ru)
theorem getmeth_ok {m : Str} {g : Addr} {pl : Sem Bool} {Q : Value × List Value → Shared → Prop} (I : Inv X pins σ H s) (e : H a = some (.ins C dx fs)) (c : Cls X.K C) (k : Meth X.K C m g) (l : fs.lookup m = none)
    (h : Q (.ref g, [.ref a]) s) : wpAny (model X.prog X.w) A (getMethod (.ref a) m pl) Q E s := by
  obtain ⟨mA, O, r, _, _, _⟩ := ins_get I.hok e
  have hn : mA m = none := RelO.none_of (by rw [← l]; exact r m)
  exact get_meth I.kIn O (c.get m) k.at_ k.fn hn h
theorem setattr_ok {y : V} {u : Value} {Q : Unit → Shared → Prop} (I : Inv X pins σ H s) (e : H a = some (.ins C dx fs)) (c : Cls X.K C) (n : NoAttr X.K C f) (hl : fs.length < 1000) (ry : RelV y u)
    (h : ∀ s', Inv X pins σ (upd H a (.ins C dx (putF f y fs))) s' → Q () s') : wpAny (model X.prog X.w) A (setAttr (.ref a) f u) Q E s := by
  obtain ⟨mA, O, r, wi, _, ho⟩ := ins_get I.hok e
  have hz : (fs.map (·.1)).length ≤ sizeLine := by rw [List.length_map, sizeLine_eq]; omega
  refine set_map I.kIn O c.sa c.po n.taker c.hd wi hz fun h' O' sb => h _ ?_
  have hd : ∃ o, h'.get? dx = some o := let ⟨o, _, _, e', _⟩ := O'.ns; ⟨o, e'⟩
  refine I.write (x := a) (e := dx) (by rw [e]; exact True.intro) (.inr ho) (fun b q hb z => (sb.2 b hb).trans z) hd ?_
  refine ⟨by rw [upd_ne O.ne]; exact ho, ?_, O.ne, O'.obj, _, O'.ns, fun g => ?_, fun g hg => ?_⟩
  · have := length_putF f y fs; omega
  · show RelO ((putF f y fs).lookup g) (if g = f then some u else mA g)
    rw [lookup_putF]
    by_cases q : g = f
    · rw [if_pos q, if_pos q]; exact ry
    · rw [if_neg q, if_neg q]; exact r g
  · by_cases q : g = f
    · rw [q]; exact (keys_putF f y fs).1
    · refine (keys_putF f y fs).2 g (wi g fun z => hg ?_)
      show (if g = f then some u else mA g) = none
      rw [if_neg q]; exact z
theorem Inv.made (I : Inv X pins σ H s) : Inv X pins σ (upd (upd H s.heap.objs.size (.own (s.heap.objs.size + 1))) (s.heap.objs.size + 1) (.ins C s.heap.objs.size []))
    { s with heap := (s.heap.push PySem.W.emptyDict).push (PySem.W.instObj C s.heap.objs.size) } := by
  have e1 : (s.heap.push PySem.W.emptyDict).get? s.heap.objs.size = some PySem.W.emptyDict := Heap.get?_push_size s.heap rfl
  have e2 : ((s.heap.push PySem.W.emptyDict).push (PySem.W.instObj C s.heap.objs.size)).get? (s.heap.objs.size + 1) = some (PySem.W.instObj C s.heap.objs.size) := by
    have := Heap.get?_push_size (s.heap.push PySem.W.emptyDict) (o := PySem.W.instObj C s.heap.objs.size) rfl
    rwa [Heap.size_push] at this
  have e3 : (s.heap.push PySem.W.emptyDict).Ns s.heap.objs.size (fun _ => none) := ⟨PySem.W.emptyDict, #[], _, e1, rfl, (fun e he => absurd he (by simp)), fun _ => rfl⟩
  have I1 := I.laid (a := s.heap.objs.size) (o := .own (s.heap.objs.size + 1)) (h' := s.heap.push PySem.W.emptyDict) (t' := s.toks) (fun b u q => Heap.get?_push_of_some _ q) (Nat.le_refl _) ⟨_, e1⟩
  refine I1.laid (a := s.heap.objs.size + 1) (o := .ins C s.heap.objs.size []) (t' := s.toks) (fun b u q => Heap.get?_push_of_some _ q) (Nat.le_of_eq (Heap.size_push _ _)) ?_
  have ne : s.heap.objs.size ≠ s.heap.objs.size + 1 := Nat.ne_of_lt (Nat.lt_succ_self _)
  refine ⟨by rw [upd_ne ne, upd_same], Nat.zero_le _, ne, e2, fun _ => none, (Heap.Ns1.of_empty e3).at fun o q => Heap.get?_push_of_some _ q, fun _ => True.intro, fun y hy => absurd rfl hy⟩
theorem attr_of {prog : Program} {w : World} {env : Env} {e : Expr} {f : Str} {pos : Pos} {s : Shared} {Q : Value → Shared → Prop} (hb : attributeBase e f env (eval e env) = eval e env)
    (h : wpAny (model prog w) A (eval e env) (fun o s₁ => wpAny (model prog w) A (getAttr o f true) Q E s₁) E s) : wpAny (model prog w) A (eval (.Attribute e f pos) env) Q E s :=
  Attribute_any_ h (by rw [arm_eval_Attribute, hb])
end
def tFld (K : PySem.W.Frag) (ta : TE) (f : Str) : TE := fun σ H Q => ta σ H fun x H1 => ∃ a C dx fs v, x = .ref a ∧ H1 a = some (.ins C dx fs) ∧ Cls K C ∧ NoAttr K C f ∧ fs.lookup f = some v ∧ Q v H1
def sFld (K : PySem.W.Frag) (ta tv : TE) (f : Str) : TS := fun D σ H => tv σ H fun y H1 => ta σ H1 fun x H2 => ∃ a C dx fs, x = .ref a ∧ H2 a = some (.ins C dx fs) ∧ Cls K C ∧ NoAttr K C f ∧ fs.length < 1000 ∧
  D.nx σ (upd H2 a (.ins C dx (putF f y fs)))
section
variable {X : Cx} {o e value : Expr} {f : Str} {pos pos' tpos : Pos} {ta tv : TE}
theorem pe_fld (he : PE X e ta) (hb : attributeBase e f X.env (eval e X.env) = eval e X.env) : PE X (.Attribute e f pos) (tFld X.K ta f) := by
  intro pins s σ H Q I h
  refine attr_of hb (thn (he pins s σ H _ I h) fun u s1 ⟨x, H1, I1, rx, a, C, dx, fs, v, ex, ea, c, n, l, q⟩ => ?_)
  subst ex
  obtain rfl : u = Value.ref a := rx
  exact getattr_ok I1 ea c n l fun u' s2 I2 ru => ⟨v, H1, I2, ru, q⟩
theorem ps_fld (ha : PE X o ta) (hv : PE X value tv) (hs : swapsWith value (some (.Attribute o f pos')) pos.line X.env = pure false) : PS X (.Assign [.Attribute o f pos'] value pos) (sFld X.K ta tv f) := by
  intro pins s σ H D I h
  refine plainObj_wpAny_Assign_Attribute (thn (hv pins s σ H _ I h) fun u s1 ⟨y, H1, I1, ry, q⟩ => thn (ha pins s1 σ H1 _ I1 q) fun ov s2 ⟨x, H2, I2, rx, a, C, dx, fs, ex, ea, c, n, l, q2⟩ => ?_) hs
  subst ex
  obtain rfl : ov = Value.ref a := rx
  exact setattr_ok I2 ea c n l ry fun s3 I3 => ⟨σ, _, I3, q2⟩
end
section
variable {X : Cx} {pins : List (Addr × Obj)} {σ : St} {H : Hp} {s : Shared} {A : Around} {E : Value → Shared → Prop} {Q : Value → Shared → Prop} {c : Value} {b : Bool}
inductive TyOf (K : PySem.W.Frag) (H : Hp) : V → Value → Prop where
  | non : TyOf K H .non (.type "NoneType")
  | bl (x : Bool) : TyOf K H (.bl x) (.type "bool")
  | int (i : Int) : TyOf K H (.int i) (.type "int")
  | str (x : Str) : TyOf K H (.str x) (.type "str")
  | flt (x : UInt64) : TyOf K H (.flt x) (.type "float")
  | lst {a : Addr} {xs : List V} (e : H a = some (.lst xs)) : TyOf K H (.ref a) (.type "list")
  | frz {a : Addr} {o : Obj} {xs : List V} (e : H a = some (.frz o (.lst xs))) : TyOf K H (.ref a) (.type "list")
  | tup {a : Addr} {xs : List V} (e : H a = some (.tup xs)) : TyOf K H (.ref a) (.type "tuple")
  | dK {a : Addr} {kvs : List (Key × V)} (e : H a = some (.dK kvs)) : TyOf K H (.ref a) (.type "dict")
  | dT {a : Addr} {kvs : List (List Key × V)} (e : H a = some (.dT kvs)) : TyOf K H (.ref a) (.type "dict")
  | ins {a C dx : Addr} {fs : List (Str × V)} (e : H a = some (.ins C dx fs)) (cl : Cls K C) (ha : PySem.W.findIn K (.ref C) "__class__" = some (some (.builtin "object.__class__")))
      (hn : PySem.W.specialIn K (.builtin "object.__class__") "__get__" = some (some (.builtin "getset_descriptor.__get__"))) (htk : PySem.W.takesIn K (.builtin "object.__class__") = some true)
      (hm : PySem.W.mroIn K C (.type "object") = some true) : TyOf K H (.ref a) (.ref C)
theorem isinst_ok {x : V} {u t : Value} (I : Inv X pins σ H s) (rx : RelV x u) (ty : TyOf X.K H x t) (e : PySem.W.kitOne X.K t c = some b) (h : ∀ tk, Q (.bool b) { s with toks := tk }) :
    wpAny (model X.prog X.w) A (call (.builtin "isinstance") [u, c]) Q E s := by
  cases ty with
  | non => cases (show u = Value.none from rx); exact PySem.W.kia_one PySem.W.kitx_none I.kIn True.intro e (fun z => nomatch z) h
  | bl y => cases (show u = Value.bool y from rx); exact PySem.W.kia_one PySem.W.kitx_bool I.kIn True.intro e (fun z => nomatch z) h
  | int i => obtain ⟨t, q⟩ := (show ∃ t, u = Value.int i t from rx); cases q; exact PySem.W.kia_one PySem.W.kitx_int I.kIn True.intro e (fun z => nomatch z) h
  | str y => obtain ⟨t, q⟩ := (show ∃ t, u = Value.str y t from rx); cases q; exact PySem.W.kia_one PySem.W.kitx_str I.kIn True.intro e (fun z => nomatch z) h
  | flt y => obtain ⟨t, q⟩ := (show ∃ t, u = Value.float y t from rx); cases q; exact PySem.W.kia_one PySem.W.kitx_float I.kIn True.intro e (fun z => nomatch z) h
  | @lst a xs ea =>
    cases (show u = Value.ref a from rx)
    obtain ⟨_, _, n, _, h1⟩ := (show ObjOk X.prog X.w H s.heap a (.lst xs) from I.hok a _ ea)
    exact PySem.W.kia_one PySem.W.kitx_list I.kIn ⟨_, h1, rfl⟩ e (fun z => nomatch z) h
  | @frz a ob xs ea =>
    cases (show u = Value.ref a from rx)
    obtain ⟨_, _, _, n, _, h1⟩ := (show ObjOk X.prog X.w H s.heap a (.frz ob (.lst xs)) from I.hok a _ ea)
    exact PySem.W.kia_one PySem.W.kitx_list I.kIn ⟨_, h1, rfl⟩ e (fun z => nomatch z) h
  | @tup a xs ea =>
    cases (show u = Value.ref a from rx)
    obtain ⟨_, _, _, p⟩ := (show ObjOk X.prog X.w H s.heap a (.tup xs) from I.hok a _ ea)
    obtain ⟨o, h1, h2, _⟩ := p
    exact PySem.W.kia_one PySem.W.kitx_tuple I.kIn ⟨o, h1, h2⟩ e (fun z => nomatch z) h
  | @dK a kvs ea =>
    cases (show u = Value.ref a from rx)
    obtain ⟨_, _, vs, _, p⟩ := (show ObjOk X.prog X.w H s.heap a (.dK kvs) from I.hok a _ ea)
    obtain ⟨o, es, ep, h1, h2, _⟩ := p
    exact PySem.W.kia_one PySem.W.kitx_dict I.kIn ⟨o, h1, h2.1⟩ e (fun z => nomatch z) h
  | @dT a kvs ea =>
    cases (show u = Value.ref a from rx)
    obtain ⟨_, _, xs, _, o, es, ep, h1, h2, _⟩ := (show ObjOk X.prog X.w H s.heap a (.dT kvs) from I.hok a _ ea)
    exact PySem.W.kia_one PySem.W.kitx_dict I.kIn ⟨o, h1, h2.1⟩ e (fun z => nomatch z) h
  | @ins a C dx fs ea cl ha hn htk hm =>
    cases (show u = Value.ref a from rx)
    obtain ⟨mA, O, _⟩ := ins_get I.hok ea
    obtain ⟨od, J, _⟩ := O.look
    exact PySem.W.kia_one (PySem.W.kitx_own (cl.get _) cl.hd ha hn htk hm) I.kIn J e (fun z => nomatch z) h
end
end L2
namespace L2
open PySem PySem.Spec PyProof.Rows
structure Room (k : Nat) (A : Around) : Prop where
  hd : A.handled = none
  dp : A.depth + 3 * k + 5 < recursionLimit
  un : A.units + 16 * k + 200 < cLine
theorem Room.in1 {k : Nat} {A : Around} (r : Room (k + 1) A) : Room k A.in1 :=
  ⟨r.hd, by have := r.dp; show A.depth + 3 * k + 5 < _; omega, by have := r.un; show A.units + 1 + 16 * k + 200 < _; omega⟩
theorem make_depth {A : Around} {C : Addr} {us : List Value} {kw : List (Str × Value)} : (A.under (.builtin "type.__call__" ⟨.ref C :: us, kw⟩)).depth = A.depth + 1 := by
  first | rfl | simp [Around.under, Code.weight, Code.isCreation, Code.isGuard, Code.isCaller, Code.frames, Code.isFrame, guardIds]
theorem make_units {A : Around} {C : Addr} {us : List Value} {kw : List (Str × Value)} : (A.under (.builtin "type.__call__" ⟨.ref C :: us, kw⟩)).units = A.units + 1 := by
  first | rfl | simp [Around.under, Code.cUnits, Code.frames, Code.isFrame]
theorem Room.make {k : Nat} {A : Around} (r : Room (k + 1) A) (C : Addr) (us : List Value) (kw : List (Str × Value)) : Room k (A.under (.builtin "type.__call__" ⟨.ref C :: us, kw⟩)) :=
  ⟨r.hd, by have := r.dp; rw [make_depth]; omega, by have := r.un; rw [make_units]; omega⟩
def tNil : TA := fun _ H Q => Q [] H
def tCons (ta : TE) (tr : TA) : TA := fun σ H Q => ta σ H fun x H1 => tr σ H1 fun xs H2 => Q (x :: xs) H2
section
variable {X : Cx} {e : Expr} {es : List Expr} {te : TE} {t : TA} {pos : Pos}
theorem pa_nil : PA X [] tNil := fun _ _ _ _ H Q I h => Calls.spliced_nil ⟨[], H, I, .nil, h⟩
theorem pa_cons (ha : PE X e te) (hr : PA X es t) (hs : starEach (e :: es) X.env = (false, eval e X.env) :: starEach es X.env := by rfl) : PA X (e :: es) (tCons te t) := by
  intro pos pins s σ H Q I h
  rw [hs]
  show wpAny _ _ (spliced ((false, eval e X.env) :: backTo pos (starEach es X.env))) _ _ s
  refine Calls.spliced_cons (thn (ha pins s σ H _ I h) fun u s1 ⟨x, H1, I1, r1, q1⟩ => ?_)
  exact thn (hr pos pins s1 σ H1 _ I1 q1) fun us s2 ⟨xs, H2, I2, r2, q2⟩ => ⟨x :: xs, H2, I2, .cons r1 r2, q2⟩
def tTup (t : TA) : TE := fun σ H Q => t σ H fun xs H1 => xs.length ≤ sizeLine ∧ ∀ p, H1 p = none → Q (.ref p) (upd H1 p (.tup xs))
def tLst (t : TA) : TE := fun σ H Q => t σ H fun xs H1 => xs.length ≤ sizeLine ∧ ∀ p, H1 p = none → Q (.ref p) (upd H1 p (.lst xs))
theorem pe_tup {x1} (h : PA X es t) : PE X (.Tuple es x1 pos) (tTup t) := by
  intro pins s σ H Q I hq
  refine wpAny_Tuple_spliced (thn (h pos pins s σ H _ I hq) fun us s1 ⟨xs, H1, I1, r, z, q⟩ => ⟨by rw [← r.length]; exact z, ?_⟩)
  have hf : H1 s1.heap.objs.size = none := I1.hok.fresh (Nat.le_refl _)
  refine ⟨.ref s1.heap.objs.size, upd H1 s1.heap.objs.size (.tup xs), I1.laid (t' := s1.toks) (fun b u e => Heap.get?_push_of_some _ e) (Nat.le_refl _) ?_, rfl, q _ hf⟩
  exact ⟨z, us, r, ⟨_, Heap.get?_push_size _ rfl, rfl, _, rfl⟩⟩
theorem pe_lst (h : PA X es t) : PE X (.List es pos) (tLst t) := by
  intro pins s σ H Q I hq
  refine wpAny_List_spliced (thn (h pos pins s σ H _ I hq) fun us s1 ⟨xs, H1, I1, r, z, q⟩ => ⟨by rw [← r.length]; exact z, ?_⟩)
  have hf : H1 s1.heap.objs.size = none := I1.hok.fresh (Nat.le_refl _)
  refine ⟨.ref s1.heap.objs.size, upd H1 s1.heap.objs.size (.lst xs), I1.laid (t' := s1.toks) (fun b u e => Heap.get?_push_of_some _ e) (Nat.le_refl _) ?_, rfl, q _ hf⟩
  exact ⟨z, us, 0, r, Heap.get?_push_size _ rfl⟩
end
abbrev Sp := List V → Hp → VK → XK → Prop
abbrev CXT := List Env → Hp → Shared → XK → Value → Shared → Prop
structure Env0 (P : Program) (w : World) (K : PySem.W.Frag) (mg : Str → Option Value) (base : Heap) (A : Around) (outer : List Env) (s : Shared) (H : Hp) : Prop where
  frames : A.frames = some outer
  mod : Mod K mg base
  bs : ∀ b o, base.get? b = some o → s.heap.get? b = some o ∧ H b = none
  bsz : base.objs.size ≤ s.heap.objs.size
  funs : s.heap.FunFrames base outer
  frf : ∀ b ∈ frs outer, H b = none
  hok : HOk P w H s.heap
  bare : AllBare s.gens
def CE (outer : List Env) (P : Program) (w : World) (H : Hp) (s : Shared) (Q : VK) (u : Value) (s' : Shared) : Prop :=
  ∃ v H', s'.os = s.os ∧ AllBare s'.gens ∧ Un (frs outer) [] H H' s.heap s'.heap ∧ HOk P w H' s'.heap ∧ RelV v u ∧ Q v H'
def CR (CX : CXT) (outer : List Env) (P : Program) (w : World) (H : Hp) (s : Shared) (Q : VK) (E : XK) (r : Result) (s' : Shared) : Prop :=
  match r with
  | .ok (.ret u) => CE outer P w H s Q u s'
  | .ok _ => False
  | .error e => CX outer H s E e s'
structure FnOk (P : Program) (w : World) (K : PySem.W.Frag) (mg : Str → Option Value) (base : Heap) (CX : CXT) (k : Nat) (f : Addr) (fd : FuncData) (ps : List Str) (sp : Sp) : Prop where
  len : ∀ vs H Q E, sp vs H Q E → vs.length = ps.length
  run : ∀ (A : Around) (outer : List Env) (s : Shared) (H : Hp) (args : Args) (us : List Value) (vs : List V) (Q : VK) (E : XK), Room k A → Env0 P w K mg base A outer s H → BindsTo s fd args (ps.zip us) → Vals vs us → sp vs H Q E →
    codeAny (model P w) A (.call (.ref f) args) (CR CX outer P w H s Q E) s
theorem Env0.make {P : Program} {w : World} {K : PySem.W.Frag} {mg : Str → Option Value} {base : Heap} {A : Around} {outer : List Env} {s : Shared} {H : Hp} (e : Env0 P w K mg base A outer s H) (C : Addr) (us : List Value) (kw : List (Str × Value)) :
    Env0 P w K mg base (A.under (.builtin "type.__call__" ⟨.ref C :: us, kw⟩)) outer s H := ⟨by first | exact e.frames | (simpa [Around.under, Code.envs, Code.isFrame, pushEnvs] using e.frames), e.mod, e.bs, e.bsz, e.funs, e.frf, e.hok, e.bare⟩
theorem Env0.in1 {P : Program} {w : World} {K : PySem.W.Frag} {mg : Str → Option Value} {base : Heap} {A : Around} {outer : List Env} {s : Shared} {H : Hp} (e : Env0 P w K mg base A outer s H) :
    Env0 P w K mg base A.in1 outer s H := ⟨e.frames, e.mod, e.bs, e.bsz, e.funs, e.frf, e.hok, e.bare⟩
section
variable {X : Cx} {pins : List (Addr × Obj)} {σ : St} {H : Hp} {s s' : Shared}
theorem Inv.env0 (I : Inv X pins σ H s) : Env0 X.prog X.w X.K X.mg X.base X.A X.stack s H :=
  ⟨I.ok.frames, I.ok.mod, I.bs, Nat.le_trans I.ok.bsz I.sz, I.stack, I.stkFree, I.hok, I.bare⟩
theorem Inv.after {Q : VK} {u : Value} (I : Inv X pins σ H s) (h : CE X.stack X.prog X.w H s Q u s') : EP X pins σ Q u s' := by
  obtain ⟨v, H', os, bare, un, hok, r, q⟩ := h
  obtain ⟨hh, g, d, t, os'⟩ := s'
  obtain rfl : os' = s.os := os
  exact ⟨v, H', I.call (h' := hh) (g' := g) (d' := d) (t' := t) (ch := []) un hok bare (fun b z => absurd z (by simp)), r, q⟩
end
def tCall (sp : Sp) (dvs : List V) (E : XK) (t : TA) : TE := fun σ H Q => t σ H fun vs H1 => sp (vs ++ dvs) H1 Q E
def tMake (C : Addr) (sp : Sp) (dvs : List V) (E : XK) (t : TA) : TE := fun σ H Q => t σ H fun vs H1 => ∀ x dx, H1 x = none → H1 dx = none → dx ≠ x →
  sp (.ref x :: (vs ++ dvs)) (upd (upd H1 dx (.own x)) x (.ins C dx [])) (fun v H2 => v = .non ∧ Q (.ref x) H2) E
def Binds (K : PySem.W.Frag) (fd : FuncData) (ps : List Str) (ds : List Value) : Prop :=
  ∀ (s : Shared) (us : List Value), K.In s.heap → (us ++ ds).length = ps.length → BindsTo s fd ⟨us, []⟩ (ps.zip (us ++ ds))
theorem Binds.all {K : PySem.W.Frag} {fd : FuncData} {ps : List Str} (h : ∀ us : List Value, us.length = ps.length → bindArgs fd ⟨us, []⟩ = pure (ps.zip us)) : Binds K fd ps [] := fun s us _ hl => by
  rw [List.append_nil] at hl ⊢
  exact .of_eq (h us hl)
def Passes (CX : CXT) (X : Cx) (E : XK) : Prop := ∀ (pins : List (Addr × Obj)) (σ : St) (H : Hp) (s : Shared) (e : Value) (s' : Shared), Inv X pins σ H s → CX X.stack H s E e s' → X.xe e s'
section
variable {X : Cx} {CX : CXT} {k : Nat} {f C : Addr} {fd : FuncData} {ps : List Str} {sp : Sp} {dvs : List V} {ds : List Value} {E : XK} {x m : Str} {p pos apos : Pos} {e o : Expr} {es : List Expr} {ta : TE} {t : TA}
theorem run_fn {pins : List (Addr × Obj)} {σ : St} {H : Hp} {s : Shared} {Q : VK} {us : List Value} {vs : List V} (F : FnOk X.prog X.w X.K X.mg X.base CX k f fd ps sp) (hr : Room k X.A) (hb : Binds X.K fd ps ds) (hd : Vals dvs ds) (hx : Passes CX X E)
    (I : Inv X pins σ H s) (r : Vals vs us) (h : sp (vs ++ dvs) H Q E) : wpAny (model X.prog X.w) X.A (call (.ref f) us) (EP X pins σ Q) X.xe s := by
  have r2 : Vals (vs ++ dvs) (us ++ ds) := r.append hd
  have hl : (us ++ ds).length = ps.length := by rw [← r2.length]; exact F.len _ _ _ _ h
  refine wpAny_call (codeAny_mono (F.run X.A X.stack s H ⟨us, []⟩ (us ++ ds) (vs ++ dvs) Q E hr I.env0 (hb s us I.kIn hl) r2 h) fun r s' hq => ?_)
  cases r with
  | error e => exact hx pins σ H s e s' I hq
  | ok fl =>
    cases fl with
    | ret u => exact I.after hq
    | next => exact False.elim hq
    | brk => exact False.elim hq
    | cont => exact False.elim hq
structure Mk (K : PySem.W.Frag) (C f : Addr) : Prop where
  makes : PySem.W.makesIn K C = true
  init : PySem.W.findIn K (.ref C) "__init__" = some (some (.ref f))
  fn : PySem.W.isFn K (.ref f) = true
  kp : PySem.W.keepIn K (.ref C) = true
theorem run_make {pins : List (Addr × Obj)} {σ : St} {H : Hp} {s : Shared} {Q : VK} {us : List Value} {vs : List V} (M : Mk X.K C f) (F : FnOk X.prog X.w X.K X.mg X.base CX k f fd ps sp) (hr : Room (k + 1) X.A) (hb : Binds X.K fd ps ds) (hd : Vals dvs ds)
    (hx : Passes CX X E) (I : Inv X pins σ H s) (r : Vals vs us)
    (h : ∀ x dx, H x = none → H dx = none → dx ≠ x → sp (.ref x :: (vs ++ dvs)) (upd (upd H dx (.own x)) x (.ins C dx [])) (fun v H2 => v = .non ∧ Q (.ref x) H2) E) :
    wpAny (model X.prog X.w) X.A (call (.ref C) us) (EP X pins σ Q) X.xe s := by
  have hq := h (s.heap.objs.size + 1) s.heap.objs.size (I.hok.fresh (Nat.le_succ _)) (I.hok.fresh (Nat.le_refl _)) (Nat.ne_of_lt (Nat.lt_succ_self _))
  have I2 := Inv.made (C := C) I
  have r2 : Vals (V.ref (s.heap.objs.size + 1) :: (vs ++ dvs)) (Value.ref (s.heap.objs.size + 1) :: (us ++ ds)) := .cons rfl (r.append hd)
  have hl : (Value.ref (s.heap.objs.size + 1) :: us ++ ds).length = ps.length := by
    have e := r2.length
    rw [F.len _ _ _ _ hq] at e
    exact e.symm
  refine wpAny_call (make_map (f := f) I.kIn M.makes M.init (beq_iff_eq.mp M.fn) (codeAny_mono (F.run _ X.stack _ _ ⟨Value.ref (s.heap.objs.size + 1) :: us, []⟩ (Value.ref (s.heap.objs.size + 1) :: (us ++ ds)) _ _ E (hr.make C us [])
    (I2.env0.make C us []) (hb _ (Value.ref (s.heap.objs.size + 1) :: us) I2.kIn hl) r2 hq) fun r s' hq' => ?_))
  cases r with
  | error e => exact hx pins σ _ _ e s' I2 hq'
  | ok fl =>
    cases fl with
    | ret u =>
      obtain ⟨v, H', I3, rv, ev, q3⟩ := I2.after hq'
      subst ev
      exact ⟨rv, ⟨V.ref (s.heap.objs.size + 1), H', I3, rfl, q3⟩⟩
    | next => exact False.elim hq'
    | brk => exact False.elim hq'
    | cont => exact False.elim hq'
theorem pe_make (M : Mk X.K C f) (F : FnOk X.prog X.w X.K X.mg X.base CX k f fd ps sp) (hr : Room (k + 1) X.A) (hg : Gl X x) (hm : X.mg x = some (.ref C)) (hb : Binds X.K fd ps ds) (hd : Vals dvs ds) (hx : Passes CX X E)
    (ha : PA X (e :: es) t) (hdb : (x == ("__debug__" : Str)) = false := by decide) (he : starEach (e :: es) X.env = (false, eval e X.env) :: starEach es X.env := by rfl) (hpl : (backTo pos (starEach es X.env)).any (·.1) = false := by rfl) :
    PE X (.Call (.Name x p) (e :: es) [] pos) (tMake C sp dvs E t) := by
  intro pins s σ H Q I h
  refine wpAny_Call_Name_kw (ld_glob I hg hm ?_ hdb)
  refine PySem.W.callWith_K (h₀ := X.base) I.ok.mod.kin M.kp (thn (ha pos pins s σ H _ I h) fun us s1 ⟨vs, H1, I1, r, q⟩ => ⟨I1.kIn, ?_⟩) he hpl
  exact run_make M F hr hb hd hx I1 r q
end
def PK (X : Cx) (kws : List Keyword) (t : TA) : Prop :=
  ∀ (pos : Pos) (pins : List (Addr × Obj)) (s : Shared) (σ : St) (H : Hp) (Q : List V → Hp → Prop), Inv X pins σ H s → t σ H Q → wpAny (model X.prog X.w) X.A (evalAll ((backToKw pos (keywordEach kws X.env)).map (·.2))) (AP X pins σ Q) X.xe s
section
variable {X : Cx} {CX : CXT} {k : Nat} {f C : Addr} {fd : FuncData} {ps ks : List Str} {sp : Sp} {E : XK} {x m : Str} {p pos apos kpos : Pos} {e o : Expr} {es : List Expr} {kws : List Keyword} {te ta : TE} {t tk : TA} {nm : Option Str}
theorem pk_nil : PK X [] tNil := fun _ _ _ _ H Q I h => wpAny_evalAll_nil ⟨[], H, I, .nil, h⟩
theorem pk_cons (ha : PE X e te) (hr : PK X kws t) : PK X (⟨nm, e, kpos⟩ :: kws) (tCons te t) := by
  intro pos pins s σ H Q I h
  show wpAny _ _ (evalAll ((do let v ← eval e X.env; standAt pos; pure v) :: (backToKw pos (keywordEach kws X.env)).map (·.2))) _ _ s
  refine wpAny_evalAll_cons (wpAny_bind (thn (ha pins s σ H _ I h) fun u s1 ⟨x, H1, I1, r1, q1⟩ => wpAny_bind (wpAny_standAt (wpAny_pure ?_))))
  exact thn (hr pos pins s1 σ H1 _ I1 q1) fun us s2 ⟨xs, H2, I2, r2, q2⟩ => ⟨x :: xs, H2, I2, .cons r1 r2, q2⟩
variable {g : List Value → List Value → List Value} {gV : List V → List V → List V}
end
structure FnScope (N P : List Str) (sc : Scope) : Prop where
  kind : sc.kind = .function
  co : sc.isCoroutine = false
  gen : sc.isGenerator = false
  nd : N.Nodup
  pre : N.take P.length = P
  par : ∀ x ∈ P, sc.names.lookup x = some .local ∨ sc.names.lookup x = some .cell
  nofree : ∀ y ∈ sc.names, y.2 ≠ .free
theorem bindL_out {kindOf : Str → Option NameKind} {x : Str} : ∀ {binds : List (Str × Value)} {m : Str → Option Value}, (∀ v, (x, v) ∉ binds) → bindL kindOf binds m x = m x
  | [], _, _ => rfl
  | (n, v) :: r, m, h => by
    unfold bindL
    rw [bindL_out fun w hw => h w (List.mem_cons_of_mem _ hw)]
    split
    · have : x ≠ n := by rintro rfl; exact h v List.mem_cons_self
      simp [this]
    · rfl
theorem bindC_out {kindOf : Str → Option NameKind} {x : Str} : ∀ {binds : List (Str × Value)} {m : Str → Option Value}, (∀ v, (x, v) ∉ binds) → bindC kindOf binds m x = m x
  | [], _, _ => rfl
  | (n, v) :: r, m, h => by
    unfold bindC
    rw [bindC_out fun w hw => h w (List.mem_cons_of_mem _ hw)]
    split
    · rfl
    · have : x ≠ n := by rintro rfl; exact h v List.mem_cons_self
      simp [this]
theorem bindL_get {kindOf : Str → Option NameKind} {x : Str} {v : Value} : ∀ {P : List Str} {vs : List Value} {i : Nat} {m : Str → Option Value}, P.Nodup → P[i]? = some x → vs[i]? = some v → kindOf x = some .local →
    bindL kindOf (P.zip vs) m x = some v
  | [], _, _, _, _, h, _, _ => by simp at h
  | _ :: _, [], _, _, _, _, h, _ => by simp at h
  | p :: P, w :: vs, 0, m, nd, h1, h2, hk => by
    simp at h1 h2; subst h1; subst h2
    show bindL kindOf ((p, w) :: P.zip vs) m p = _
    unfold bindL
    rw [bindL_out fun v hv => (List.nodup_cons.mp nd).1 (List.of_mem_zip hv).1, if_pos hk]
    simp
  | p :: P, w :: vs, i + 1, m, nd, h1, h2, hk => by
    show bindL kindOf ((p, w) :: P.zip vs) m x = _
    unfold bindL
    exact bindL_get (i := i) (List.nodup_cons.mp nd).2 (by simpa using h1) (by simpa using h2) hk
theorem bindC_get {kindOf : Str → Option NameKind} {x : Str} {v : Value} : ∀ {P : List Str} {vs : List Value} {i : Nat} {m : Str → Option Value}, P.Nodup → P[i]? = some x → vs[i]? = some v → kindOf x ≠ some .local →
    bindC kindOf (P.zip vs) m x = some v
  | [], _, _, _, _, h, _, _ => by simp at h
  | _ :: _, [], _, _, _, _, h, _ => by simp at h
  | p :: P, w :: vs, 0, m, nd, h1, h2, hk => by
    simp at h1 h2; subst h1; subst h2
    show bindC kindOf ((p, w) :: P.zip vs) m p = _
    unfold bindC
    rw [bindC_out fun v hv => (List.nodup_cons.mp nd).1 (List.of_mem_zip hv).1, if_neg hk]
    simp
  | p :: P, w :: vs, i + 1, m, nd, h1, h2, hk => by
    show bindC kindOf ((p, w) :: P.zip vs) m x = _
    unfold bindC
    exact bindC_get (i := i) (List.nodup_cons.mp nd).2 (by simpa using h1) (by simpa using h2) hk
def start (N : List Str) (vs : List V) : St := vs.map some ++ List.replicate (N.length - vs.length) none
def cxOf (CX : CXT) (P : Program) (w : World) (K : PySem.W.Frag) (mg : Str → Option Value) (base : Heap) (N : List Str) (qual : Str) (scope : Scope) (f : Addr) (cd : Value) (A : Around) (outer : List Env) (s : Shared) (H : Hp) (E : XK) : Cx where
  prog := P
  w := w
  K := K
  mg := mg
  base := base
  A := A.deeper (envOfC qual scope s.heap.objs.size f cd)
  N := N
  s₀ := s
  H₀ := H
  env := envOfC qual scope s.heap.objs.size f cd
  outer := outer
  stack := envOfC qual scope s.heap.objs.size f cd :: outer
  ex := []
  calm := true
  fn := fun _ => true
  pn := []
  xe := fun e s' => wpAny (model P w) (A.deeper (envOfC qual scope s.heap.objs.size f cd)) (leaving (envOfC qual scope s.heap.objs.size f cd) e) (fun _ s'' => CX outer H s E e s'') (fun e' s'' => CX outer H s E e' s'') s'
theorem cell_has {sc : Scope} {n : Nat} {x : Str} (h : sc.names.lookup x = some .cell) : ∃ c, (cellsFrom n sc.names []).lookup x = some c := by
  have q := PySem.W.cellsFrom_some sc.names n [] (.inl h)
  exact Option.isSome_iff_exists.mp q
end L2
namespace L2
open PySem PySem.Spec PyProof.Rows
section
variable {X : Cx} {x : Str} {p pos : Pos} {e : Expr} {es : List Expr} {t : TA} {id T : String} {r : List V → Hp → VK → Prop}
def tCB (r : List V → Hp → VK → Prop) (t : TA) : TE := fun σ H Q => t σ H fun vs H1 => r vs H1 Q
theorem pe_callB (hc : CallR X (.builtin id) r) (hg : Gl X x) (hm : X.mg x = none) (hv : bootBuiltins x = some (.builtin id)) (ha : PA X (e :: es) t) (hn : x ≠ "__name__" := by decide) (hdb : (x == ("__debug__" : Str)) = false := by decide)
    (he : starEach (e :: es) X.env = (false, eval e X.env) :: starEach es X.env := by rfl) (hpl : (backTo pos (starEach es X.env)).any (·.1) = false := by rfl) : PE X (.Call (.Name x p) (e :: es) [] pos) (tCB r t) := by
  intro pins s σ H Q I h
  refine wpAny_Call_Name_kw (ld_blt I hg hm hv ?_ hn hdb)
  exact PyProof.Rows.callWith_builtin1 (thn (ha pos pins s σ H _ I h) fun us s1 ⟨vs, H1, I1, r1, q1⟩ => hc pins s1 σ H1 vs us Q I1 r1 q1) he hpl
theorem pe_callTy (hc : CallR X (.type T) r) (hg : Gl X x) (hm : X.mg x = none) (hv : bootBuiltins x = some (.type T)) (ha : PA X (e :: es) t) (hn : x ≠ "__name__" := by decide) (hdb : (x == ("__debug__" : Str)) = false := by decide)
    (he : starEach (e :: es) X.env = (false, eval e X.env) :: starEach es X.env := by rfl) (hpl : (backTo pos (starEach es X.env)).any (·.1) = false := by rfl) : PE X (.Call (.Name x p) (e :: es) [] pos) (tCB r t) := by
  intro pins s σ H Q I h
  refine wpAny_Call_Name_kw (ld_blt I hg hm hv ?_ hn hdb)
  exact PyProof.Rows.callWith_type1 (thn (ha pos pins s σ H _ I h) fun us s1 ⟨vs, H1, I1, r1, q1⟩ => hc pins s1 σ H1 vs us Q I1 r1 q1) he hpl
end
end L2
namespace HT
open PySem PyProof.Rows
section
variable {prog : Program} {w : World} {A : Around} {E : Value → Shared → Prop} {s : Shared}
def sIx (n d : Nat) : Option Int → Nat
  | none => d
  | some v => if v < 0 then (v + (n : Int)).toNat else min v.toNat n
theorem sIx_none (n d : Nat) : sIx n d none = d := rfl
theorem sIx_nat (n d k : Nat) : sIx n d (some (k : Int)) = min k n := by
  show (if (k : Int) < 0 then ((k : Int) + (n : Int)).toNat else min (k : Int).toNat n) = min k n
  rw [if_neg (by omega), Int.toNat_natCast]
theorem sIx_le (n d : Nat) (hd : d ≤ n) (o : Option Int) : sIx n d o ≤ n := by
  cases o with
  | none => exact hd
  | some v =>
    show (if v < 0 then (v + (n : Int)).toNat else min v.toNat n) ≤ n
    by_cases hv : v < 0
    · rw [if_pos hv]; omega
    · rw [if_neg hv]; exact Nat.min_le_right _ _
theorem clip_eq (v : Int) (n d : Nat) : (if v < 0 then max (v + (n : Int)) 0 else min v (n : Int)) = ((sIx n d (some v) : Nat) : Int) := by
  show (if v < 0 then max (v + (n : Int)) 0 else min v (n : Int)) = (((if v < 0 then (v + (n : Int)).toNat else min v.toNat n) : Nat) : Int)
  by_cases hv : v < 0
  · simp only [if_pos hv]; omega
  · simp only [if_neg hv]; omega
theorem adjust_gen (lo hi : Option Int) (n : Nat) : Builtin.Slice.sliceAdjust lo hi 1 (n : Int) = (((sIx n 0 lo : Nat) : Int), ((sIx n n hi : Nat) : Int)) := by
  have h1 : ¬ ((1 : Int) < 0) := by omega
  unfold Builtin.Slice.sliceAdjust
  simp only [h1, if_false]
  refine Prod.ext ?_ ?_
  · cases lo with
    | none => rfl
    | some v => exact clip_eq v n 0
  · cases hi with
    | none => rfl
    | some v => exact clip_eq v n n
theorem places_gen (i j : Nat) : Builtin.Slice.slicePlaces (i : Int) (j : Int) 1 = j - i := by
  unfold Builtin.Slice.slicePlaces
  have h1 : (1 : Int) > 0 := by omega
  simp only [h1, if_true, Int.ediv_one]
  split <;> omega
theorem slicePart_ {v : Value} {o : Option Int} {Q : Option Int → Shared → Prop} (p : IsPart v o) (h : Q o s) : wpAny (model prog w) A (Builtin.Slice.slicePartIndex v) Q E s := by
  cases p with
  | none => exact slicePart_none h
  | int i t => exact slicePart_int h
theorem sliceApplied_gen {sl : Addr} {vl vu : Value} {lo hi : Option Int} {n : Nat} {Q : Int × Int × Nat → Shared → Prop} (hs : s.heap.IsSliceOf sl vl vu .none) (pl : IsPart vl lo) (pu : IsPart vu hi)
    (h : Q (((sIx n 0 lo : Nat) : Int), 1, sIx n n hi - sIx n 0 lo) s) : wpAny (model prog w) A (Builtin.Slice.sliceApplied (.ref sl) (pure (n : Int))) Q E s := by
  obtain ⟨os, hos, hcs, hds⟩ := id hs
  unfold Builtin.Slice.sliceApplied Builtin.Slice.sliceFields
  refine wpAny_bind (wpAny_bind (wpAny_field hos hds (x := vl) rfl (wpAny_bind (wpAny_field hos hds (x := vu) rfl (wpAny_bind (wpAny_field hos hds (x := .none) rfl (wpAny_pure ?_)))))))
  refine wpAny_bind (slicePart_none ?_)
  show wpAny _ _ (if ((1 : Int) == 0) = true then _ else _) _ _ s
  rw [if_neg (by decide)]
  refine wpAny_bind (slicePart_ pl (wpAny_bind (slicePart_ pu (wpAny_bind (wpAny_pure ?_)))))
  show wpAny _ _ (match Builtin.Slice.sliceAdjust lo hi 1 (n : Int) with | (lo, hi) => pure (lo, (1 : Int), Builtin.Slice.slicePlaces lo hi 1)) _ _ s
  rw [adjust_gen lo hi n]
  show wpAny _ _ (pure (((sIx n 0 lo : Nat) : Int), (1 : Int), Builtin.Slice.slicePlaces ((sIx n 0 lo : Nat) : Int) ((sIx n n hi : Nat) : Int) 1)) _ _ s
  rw [places_gen]
  exact wpAny_pure h
theorem pick_gen (xs : Array Value) (i k : Nat) : ((List.range k).filterMap fun (m : Nat) => xs[((i : Int) + (m : Int) * 1).toNat]?).toArray = ((xs.toList.drop i).take k).toArray := by
  have e : (fun (m : Nat) => xs[((i : Int) + (m : Int) * 1).toNat]?) = fun m => xs[i + m]? := by
    funext m
    have : ((i : Int) + (m : Int) * 1).toNat = i + m := by omega
    rw [this]
  rw [e]
  have := pick_run xs i k
  rw [List.filterMap_map] at this
  have e2 : ((fun x => xs[x]?) ∘ fun x => i + x) = fun m => xs[i + m]? := rfl
  rw [e2] at this
  rw [this]
theorem getItem_tuple_cut {t sl : Addr} {items : Array Value} {vl vu : Value} {lo hi : Option Int} {Q : Value → Shared → Prop} (ht : IsTup s.heap t items) (hs : s.heap.IsSliceOf sl vl vu .none) (pl : IsPart vl lo) (pu : IsPart vu hi)
    (hw : ¬ (sIx items.size 0 lo = 0 ∧ sIx items.size items.size hi = items.size))
    (h : Q (.ref s.heap.objs.size) { s with heap := s.heap.push { cls := .type "tuple", data := .seq ((items.toList.drop (sIx items.size 0 lo)).take (sIx items.size items.size hi - sIx items.size 0 lo)).toArray } })
    (hsz : items.size ≤ sizeLine) : wpAny (model prog w) A (getItem (.ref t) (.ref sl)) Q E s := by
  have htake : sizeOk (.seq ((items.toList.drop (sIx items.size 0 lo)).take (sIx items.size items.size hi - sIx items.size 0 lo)).toArray) := by
    show ((items.toList.drop (sIx items.size 0 lo)).take (sIx items.size items.size hi - sIx items.size 0 lo)).toArray.size ≤ sizeLine
    rw [List.size_toArray, List.length_take, List.length_drop, Array.length_toList]
    omega
  have hj : sIx items.size items.size hi ≤ items.size := sIx_le _ _ (Nat.le_refl _) hi
  obtain ⟨os, hos, hcs, hds⟩ := id hs
  have hTs : s.TypeIs (.ref sl) "slice" := ⟨os, hos, hcs⟩
  unfold getItem
  try with_reducible refine wpAny_holding ?_
  first | refine wpAny_bind (wpAny_pure ?_) | skip
  refine wpAny_bind (wpAny_sequenceKey ht.typeIs (by decide) ?_)
  refine wpAny_bind (wpAny_callSpecial?_slot (name := Str.ofString "__getitem__") ht.typeIs PyProof.Rows.slot_tuple_getitem
    (wpAny_call_entry PyProof.Rows.slot_tuple_getitem ht.typeIs entry_tuple_getitem ?_ (args_tuple_getitem _ _)))
  show wpAny _ _ (Builtin.Tuple.tupleItemsOf (.ref t) >>= _) _ _ s
  refine wpAny_bind (tupleItemsOf_ ht ?_)
  refine wpAny_bind (wpAny_typeOf hTs ?_)
  rw [if_pos (by decide)]
  refine wpAny_bind (sliceApplied_gen hs pl pu ?_)
  have hno : ¬ ((((sIx items.size 0 lo : Nat) : Int) == 0 && (1 : Int) == 1 && (sIx items.size items.size hi - sIx items.size 0 lo) == items.size) = true) := by
    intro q
    rw [Bool.and_eq_true, Bool.and_eq_true] at q
    have q1 : ((sIx items.size 0 lo : Nat) : Int) = 0 := eq_of_beq q.1.1
    have q2 : sIx items.size items.size hi - sIx items.size 0 lo = items.size := eq_of_beq q.2
    exact hw ⟨by omega, by omega⟩
  show wpAny _ _ (if (((sIx items.size 0 lo : Nat) : Int) == 0 && (1 : Int) == 1 && (sIx items.size items.size hi - sIx items.size 0 lo) == items.size) = true then _ else _) _ _ s
  rw [if_neg hno, pick_gen]
  first
    | exact wpAny_bind (m := Builtin.Tuple.tupleExact _) (wpAny_newObj_type (wpAny_pure ⟨_, rfl, wpAny_pure h⟩) htake)
    | exact wpAny_bind (m := Builtin.Tuple.tupleExact _) (wpAny_newObj_type (wpAny_bind (wpAny_pure (wpAny_pure ⟨_, rfl, wpAny_pure h⟩))) htake)
    | exact wpAny_bind (wpAny_bind (m := Builtin.Tuple.tupleExact _) (wpAny_newObj_type (wpAny_pure (wpAny_pure ⟨_, rfl, wpAny_pure h⟩)) htake))
    | exact wpAny_bind (wpAny_bind (m := Builtin.Tuple.tupleExact _) (wpAny_newObj_type (wpAny_pure ⟨_, rfl, wpAny_pure h⟩) htake))
end
end HT
namespace L2
open PySem PySem.Spec PyProof.Rows
abbrev TO := St → Hp → (Option Int → Hp → Prop) → Prop
def PO (X : Cx) (e : Option Expr) (t : TO) : Prop :=
  ∀ (pins : List (Addr × Obj)) (s : Shared) (σ : St) (H : Hp) (Q : Option Int → Hp → Prop), Inv X pins σ H s → t σ H Q →
    wpAny (model X.prog X.w) X.A (evalPart e X.env) (fun u s' => ∃ o H', Inv X pins σ H' s' ∧ IsPart u o ∧ Q o H') X.xe s
def tNoPart : TO := fun _ H Q => Q none H
def tPart (t : TE) : TO := fun σ H Q => t σ H fun x H1 => ∃ i, x = .int i ∧ Q (some i) H1
section
variable {X : Cx} {e : Expr} {te : TE} {lo hi : Option Expr} {tl th : TO} {pos p2 : Pos}
theorem po_none : PO X none tNoPart := by
  intro pins s σ H Q I h
  rw [evalPart_none]
  exact wpAny_pure ⟨none, H, I, .none, h⟩
theorem po_some (h : PE X e te) : PO X (some e) (tPart te) := by
  intro pins s σ H Q I hw
  rw [evalPart_some]
  refine thn (h pins s σ H _ I hw) fun u s1 ⟨x, H1, I1, r1, q1⟩ => ?_
  obtain ⟨i, rfl, q⟩ := q1
  obtain ⟨t, rfl⟩ := r1
  exact ⟨some i, H1, I1, .int i t, q⟩
def SlR (X : Cx) (r : V → Option Int → Option Int → Hp → VK → Prop) : Prop :=
  ∀ (pins : List (Addr × Obj)) (s : Shared) (σ : St) (H : Hp) (x : V) (v vl vu : Value) (lo hi : Option Int) (sl : Addr) (Q : VK), Inv X pins σ H s → RelV x v → s.heap.IsSliceOf sl vl vu .none → IsPart vl lo → IsPart vu hi → r x lo hi H Q →
    ∃ T id, typeLookup (.type T) "__getitem__" = pure (some (.builtin id)) ∧ s.TypeIs v T ∧ wpAny (model X.prog X.w) X.A (getItem v (.ref sl)) (EP X pins σ Q) X.xe s
def tSl (r : V → Option Int → Option Int → Hp → VK → Prop) (te : TE) (tl th : TO) : TE := fun σ H Q => te σ H fun x H1 => tl σ H1 fun l H2 => th σ H2 fun u H3 => r x l u H3 Q
theorem pe_slice {r : V → Option Int → Option Int → Hp → VK → Prop} (hr : SlR X r) (he : PE X e te) (hl : PO X lo tl) (hu : PO X hi th) : PE X (.Subscript e (.Slice lo hi none p2) pos) (tSl r te tl th) := by
  intro pins s σ H Q I h
  refine Subscript_ (thn (he pins s σ H _ I h) fun v s1 ⟨x, H1, I1, r1, q1⟩ => ?_)
  refine wpAny_Slice (thn (hl pins s1 σ H1 _ I1 q1) fun vl s2 ⟨l, H2, I2, pl, q2⟩ => thn (hu pins s2 σ H2 _ I2 q2) fun vu s3 ⟨u, H3, I3, pu, q3⟩ => ?_)
  rw [evalPart_none]
  refine wpAny_pure ?_
  have I4 : Inv X pins σ H3 { s3 with heap := s3.heap.push { cls := .type "slice", data := .fields #[vl, vu, .none] } } := I3.kept (t' := s3.toks) fun b ob q => Heap.get?_push_of_some _ q
  obtain ⟨T, id, hT, ht, hg⟩ := hr pins { s3 with heap := s3.heap.push { cls := .type "slice", data := .fields #[vl, vu, .none] } } σ H3 x v vl vu l u s3.heap.objs.size Q I4 r1 (Heap.IsSliceOf.new ..) pl pu q3
  show wpAny (model X.prog X.w) X.A (subscriptTail e (.Slice lo hi none p2) v (.ref s3.heap.objs.size)) (EP X pins σ Q) X.xe { s3 with heap := s3.heap.push { cls := .type "slice", data := .fields #[vl, vu, .none] } }
  exact tail_any (ops := [.ref s3.heap.objs.size, v]) ht hT hg (by with_unfolding_all rfl)
def cutV (xs : List V) (lo hi : Option Int) : List V := (xs.drop (HT.sIx xs.length 0 lo)).take (HT.sIx xs.length xs.length hi - HT.sIx xs.length 0 lo)
theorem cutV_length (xs : List V) (lo hi : Option Int) : (cutV xs lo hi).length ≤ xs.length := by
  unfold cutV
  rw [List.length_take, List.length_drop]
  omega
def rSlT (K : PySem.W.Frag) : V → Option Int → Option Int → Hp → VK → Prop := fun x lo hi H Q => ∃ a xs, x = .ref a ∧ SqT K H a xs ∧
  ¬ (HT.sIx xs.length 0 lo = 0 ∧ HT.sIx xs.length xs.length hi = xs.length) ∧ ∀ p, H p = none → Q (.ref p) (upd H p (.tup (cutV xs lo hi)))
theorem sl_tup : SlR X (rSlT X.K) := by
  intro pins s σ H x v vl vu lo hi sl Q I rx hs pl pu h
  obtain ⟨a, xs, rfl, hx, hw, q⟩ := h
  cases rx
  obtain ⟨its, r, ht, hz⟩ := I.tuple hx
  have hlen : its.toArray.size = xs.length := by rw [List.size_toArray]; exact r.length.symm
  refine ⟨"tuple", _, PyProof.Rows.slot_tuple_getitem.lookup, ht.typeIs, ?_⟩
  refine HT.getItem_tuple_cut ht hs pl pu (by rw [hlen]; exact hw) ?_ (by rw [hlen]; exact hz)
  rw [hlen]
  refine ⟨.ref s.heap.objs.size, _, I.laid (t' := s.toks) (o := .tup (cutV xs lo hi)) (fun b ob q => Heap.get?_push_of_some _ q) (Nat.le_refl _) ?_, rfl, q _ (I.hok.fresh (Nat.le_refl _))⟩
  exact ⟨Nat.le_trans (cutV_length xs lo hi) hz, _, (r.drop (HT.sIx xs.length 0 lo)).take (HT.sIx xs.length xs.length hi - HT.sIx xs.length 0 lo), IsTup.new _ _⟩
end
end L2
namespace L2
open PySem PySem.Spec PyProof.Rows
def ixN (n : Nat) (i : Int) : Option Nat := if 0 ≤ i then (if i < n then some i.toNat else none) else if -(n : Int) ≤ i then some (i + n).toNat else none
def atI {α : Type} (xs : List α) (i : Int) : Option α := (ixN xs.length i).bind fun j => xs[j]?
theorem ixN_seq {n : Nat} {i : Int} {j : Nat} (h : ixN n i = some j) : seqIndex? i n = some j ∧ j < n ∧ -(n : Int) ≤ i ∧ i < n := by
  unfold ixN at h
  by_cases h0 : 0 ≤ i
  · rw [if_pos h0] at h
    by_cases h1 : i < n
    · rw [if_pos h1] at h
      have e : i.toNat = j := Option.some.inj h
      exact ⟨by rw [seqIndex_of h0 h1, e], by omega, by omega, h1⟩
    · rw [if_neg h1] at h; cases h
  · rw [if_neg h0] at h
    by_cases h1 : -(n : Int) ≤ i
    · rw [if_pos h1] at h
      have e : (i + n).toNat = j := Option.some.inj h
      exact ⟨by rw [seqIndex_neg (by omega) h1, e], by omega, h1, by omega⟩
    · rw [if_neg h1] at h; cases h
theorem atI_get {α : Type} {xs : List α} {i : Int} {v : α} (h : atI xs i = some v) : ∃ j, seqIndex? i xs.length = some j ∧ xs[j]? = some v ∧ j < xs.length ∧ -(xs.length : Int) ≤ i ∧ i < xs.length := by
  unfold atI at h
  cases e : ixN xs.length i with
  | none => rw [e] at h; cases h
  | some j =>
    rw [e] at h
    obtain ⟨h1, h2, h3, h4⟩ := ixN_seq e
    exact ⟨j, h1, h, h2, h3, h4⟩
theorem atI_nat {α : Type} {xs : List α} {j : Nat} {v : α} (h : xs[j]? = some v) : atI xs (j : Int) = some v := by
  have hj : j < xs.length := (List.getElem?_eq_some_iff.mp h).1
  have e : ixN xs.length (j : Int) = some j := by
    unfold ixN
    rw [if_pos (by omega), if_pos (by omega)]; simp
  unfold atI; rw [e]; exact h
def PlainIx (b : Expr) : Prop := ∀ o i, subscripted b false o i = operate [o, i] (getItem o i)
def IxR (X : Cx) (r : R2) : Prop :=
  ∀ (value slice : Expr) (pins : List (Addr × Obj)) (s : Shared) (σ : St) (H : Hp) (x y : V) (v u : Value) (Q : VK), Inv X pins σ H s → RelV x v → RelV y u → r x y H Q →
    subscripted slice false v u = operate [v, u] (getItem v u) → wpAny (model X.prog X.w) X.A (subscriptTail value slice v u) (EP X pins σ Q) X.xe s
def MtR (X : Cx) (id : String) (r : V → List V → Hp → VK → Prop) : Prop :=
  ∀ (pins : List (Addr × Obj)) (s : Shared) (σ : St) (H : Hp) (x : V) (xs : List V) (v : Value) (us : List Value) (Q : VK), Inv X pins σ H s → RelV x v → Vals xs us → r x xs H Q →
    wpAny (model X.prog X.w) X.A (call (.builtin id) (v :: us)) (EP X pins σ Q) X.xe s
section
variable {X : Cx} {a b : Expr} {ta tb : TE} {pos : Pos}
theorem pe_ix {r : R2} (hr : IxR X r) (ha : PE X a ta) (hb : PE X b tb) (hs : PlainIx b) : PE X (.Subscript a b pos) (tOp r ta tb) := by
  intro pins s σ H Q I h
  exact Subscript_ (binT ha hb I h fun v u s2 x y H2 I2 rx ry q => hr a b pins s2 σ H2 x y v u Q I2 rx ry q (hs _ _))
def rIxL (K : PySem.W.Frag) : R2 := fun x y H Q => ∃ p xs i v, x = .ref p ∧ y = .int i ∧ SqL K H p xs ∧ atI xs i = some v ∧ Q v H
def rIxT (K : PySem.W.Frag) : R2 := fun x y H Q => ∃ p xs i v, x = .ref p ∧ y = .int i ∧ SqT K H p xs ∧ atI xs i = some v ∧ Q v H
theorem ix_list : IxR X (rIxL X.K) := by
  intro value slice pins s σ H x y v u Q I rx ry h hs
  obtain ⟨p, xs, i, z, rfl, rfl, hq, he, q⟩ := h
  cases rx
  obtain ⟨t, rfl⟩ := ry
  obtain ⟨its, r, pl, hz⟩ := I.list hq
  obtain ⟨j, h1, h2, h3, h4, h5⟩ := atI_get he
  obtain ⟨w, ew, rw'⟩ := r.get h2
  have hl := r.length
  have hn := line63
  have fin : EP X pins σ Q w s := ⟨z, H, I, rw', q⟩
  by_cases h0 : 0 ≤ i
  · have hj : i.toNat = j := by
      rw [seqIndex_of h0 h5] at h1
      exact Option.some.inj h1
    exact item_listR pl.isList h0 (by omega) (by rw [hj]; simpa using ew) fin hs
  · have hj : (i + (its.toArray.size : Int)).toNat = j := by
      rw [seqIndex_neg (by omega) h4] at h1
      rw [List.size_toArray, ← hl]
      exact Option.some.inj h1
    exact subscriptTail_builtinR (x := w) pl.isList.typeIs slot_list_getitem.lookup
      (wpAny_getItem_list_neg (Q := fun r s' => r = w ∧ EP X pins σ Q r s') pl.isList (by omega) (by rw [List.size_toArray] <;> omega) (by omega) (by rw [hj]; simpa using ew) ⟨rfl, fin⟩) hs
theorem ix_tup : IxR X (rIxT X.K) := by
  intro value slice pins s σ H x y v u Q I rx ry h hs
  obtain ⟨p, xs, i, z, rfl, rfl, hq, he, q⟩ := h
  cases rx
  obtain ⟨t, rfl⟩ := ry
  obtain ⟨its, r, pl, hz⟩ := I.tuple hq
  obtain ⟨j, h1, h2, h3, h4, h5⟩ := atI_get he
  obtain ⟨w, ew, rw'⟩ := r.get h2
  have hl := r.length
  have hn := line63
  have fin : EP X pins σ Q w s := ⟨z, H, I, rw', q⟩
  exact subscriptTail_builtinR (x := w) pl.typeIs slot_tuple_getitem.lookup
    (getItem_tuple (j := j) (Q := fun r s' => r = w ∧ EP X pins σ Q r s') pl (by omega) (by omega) (by rw [List.size_toArray, ← hl]; exact h1) (by simpa using ew) ⟨rfl, fin⟩) hs
theorem mapSeq_set (its : List Value) (n j : Nat) (u : Value) : Obj.mapSeq (·.setIfInBounds j u) { cls := .type "list", data := .seq its.toArray n } = { cls := .type "list", data := .seq (its.set j u).toArray n } := by
  simp [Obj.mapSeq]
theorem Inv.lst {pins : List (Addr × Obj)} {σ : St} {H : Hp} {s : Shared} {p : Addr} {xs : List V} (I : Inv X pins σ H s) (h : H p = some (.lst xs)) :
    ∃ (its : List Value) (n : Nat), Vals xs its ∧ s.heap.get? p = some { cls := .type "list", data := .seq its.toArray n } ∧ xs.length ≤ sizeLine := by
  obtain ⟨z, its, n, r, e⟩ := I.hok p _ h
  exact ⟨its, n, r, e, z⟩
theorem Inv.lstUpd {pins : List (Addr × Obj)} {σ : St} {H : Hp} {s : Shared} {p : Addr} {xs ys : List V} {its its' : List Value} {n n' : Nat} {f : Obj → Obj} (I : Inv X pins σ H s) (h : H p = some (.lst xs))
    (ho : s.heap.get? p = some { cls := .type "list", data := .seq its.toArray n }) (hf : f { cls := .type "list", data := .seq its.toArray n } = { cls := .type "list", data := .seq its'.toArray n' }) (r : Vals ys its') (hz : ys.length ≤ sizeLine) (t : Nat) :
    Inv X pins σ (upd H p (.lst ys)) { s with heap := s.heap.update p f, toks := t } := by
  have e : (s.heap.update p f).get? p = some { cls := .type "list", data := .seq its'.toArray n' } := by
    rw [Heap.get?_update_self f ho (by rw [hf] <;> rfl), hf]
  refine I.write (x := p) (e := p) (by rw [h]; trivial) (.inl rfl) (fun b u hb q => (Heap.get?_update_other _ _ (Ne.symm hb)).trans q) ⟨_, e⟩ ?_
  exact ⟨hz, its', n', r, e⟩
def rSetL : V → V → V → Hp → (Hp → Prop) → Prop := fun o i v H Q => ∃ p xs k j, o = .ref p ∧ i = .int k ∧ H p = some (.lst xs) ∧ ixN xs.length k = some j ∧ Q (upd H p (.lst (xs.set j v)))
theorem set_list : PSet X rSetL := by
  intro pins s σ H o i v ov iv u Q I ro ri rv h
  obtain ⟨p, xs, k, j, rfl, rfl, hp, hj, q⟩ := h
  cases ro
  obtain ⟨t, rfl⟩ := ri
  obtain ⟨its, n, r, ho, hz⟩ := I.lst hp
  obtain ⟨h1, h2, h3, h4⟩ := ixN_seq hj
  have hl := r.length
  have hn := line63
  have I' : Inv X pins σ (upd H p (.lst (xs.set j v))) { s with heap := s.heap.update p (Obj.mapSeq (·.setIfInBounds j u)) } :=
    I.lstUpd hp ho (mapSeq_set its n j u) (r.set rv j) (by rw [List.length_set]; exact hz) s.toks
  by_cases h0 : 0 ≤ k
  · have hk : k.toNat = j := by
      rw [seqIndex_of h0 h4] at h1
      exact Option.some.inj h1
    exact PySem.W.ki_setAt ho h0 (by omega) (by rw [List.size_toArray, ← hl]; exact h4) (by rw [hk]; exact ⟨_, I', q⟩)
  · have hk : (k + (its.toArray.size : Int)).toNat = j := by
      rw [seqIndex_neg (by omega) h3] at h1
      rw [List.size_toArray, ← hl]
      exact Option.some.inj h1
    exact PySem.W.ki_setBack ho (by omega) (by rw [List.size_toArray, ← hl]; exact h3) (by omega) (by rw [hk]; exact ⟨_, I', q⟩)
theorem slice_bounds (lo hi : Option Int) (n : Nat) : (sliceBounds lo hi none n).1 = ((HT.sIx n 0 lo : Nat) : Int) ∧ (sliceBounds lo hi none n).2.1 = ((HT.sIx n n hi : Nat) : Int) ∧ (sliceBounds lo hi none n).2.2 = 1 := by
  refine ⟨?_, ?_, rfl⟩
  · cases lo with
    | none => simp [sliceBounds, HT.sIx]
    | some i =>
      simp only [sliceBounds, HT.sIx, Option.getD_none, show (1 : Int) > 0 by decide, if_true]
      by_cases h : i < 0
      · simp only [h, if_true] <;> omega
      · simp only [h, if_false] <;> omega
  · cases hi with
    | none => simp [sliceBounds, HT.sIx]
    | some i =>
      simp only [sliceBounds, HT.sIx, Option.getD_none, show (1 : Int) > 0 by decide, if_true]
      by_cases h : i < 0
      · simp only [h, if_true] <;> omega
      · simp only [h, if_false] <;> omega
theorem slicePick_cut (its : List Value) (lo hi : Option Int) : slicePick its.toArray lo hi none = ((its.drop (HT.sIx its.length 0 lo)).take (HT.sIx its.length its.length hi - HT.sIx its.length 0 lo)).toArray := by
  obtain ⟨h1, h2, h3⟩ := slice_bounds lo hi its.toArray.size
  unfold slicePick
  rw [h1, h2, h3]
  simp only [sliceRange_one, pick_run, List.size_toArray] <;> rfl
def rSlL (K : PySem.W.Frag) : V → Option Int → Option Int → Hp → VK → Prop := fun x lo hi H Q => ∃ a xs, x = .ref a ∧ SqL K H a xs ∧ ∀ p, H p = none → Q (.ref p) (upd H p (.lst (cutV xs lo hi)))
theorem sl_list : SlR X (rSlL X.K) := by
  intro pins s σ H x v vl vu lo hi sl Q I rx hs pl pu h
  obtain ⟨a, xs, rfl, hx, q⟩ := h
  cases rx
  obtain ⟨its, r, ht, hz⟩ := I.list hx
  have hlen := r.length
  refine ⟨"list", _, slot_list_getitem.lookup, ht.isList.typeIs, ?_⟩
  refine wpAny_getItem_list_slice ht.isList hs pl pu .none (by simp) ?_ (by rw [List.size_toArray] <;> omega)
  rw [slicePick_cut, ← hlen]
  refine ⟨.ref s.heap.objs.size, _, I.laid (t' := s.toks) (o := .lst (cutV xs lo hi)) (fun b ob q => Heap.get?_push_of_some _ q) (Nat.le_refl _) ?_, rfl, q _ (I.hok.fresh (Nat.le_refl _))⟩
  exact ⟨Nat.le_trans (cutV_length xs lo hi) hz, _, 0, (r.drop (HT.sIx xs.length 0 lo)).take (HT.sIx xs.length xs.length hi - HT.sIx xs.length 0 lo), Heap.get?_push_size _ rfl⟩
def flatV : V → Bool
  | .non => true
  | .bl _ => true
  | .int _ => true
  | .str _ => true
  | _ => false
def eqV : V → V → Bool
  | .non, .non => true
  | .bl a, .bl b => a == b
  | .bl a, .int b => (if a then 1 else 0) == b
  | .int a, .bl b => a == (if b then 1 else 0)
  | .int a, .int b => a == b
  | .str a, .str b => a == b
  | _, _ => false
theorem eqAt_V {A : Around} {s : Shared} {y x : V} {u v : Value} (ry : RelV y u) (rx : RelV x v) (fy : flatV y = true) (fx : flatV x = true) : SeqAt.EqAt A s u v (eqV y x) := by
  cases y with
  | non =>
    cases ry
    cases x with
    | non => cases rx; exact SeqAt.EqAt.same _
    | bl b => cases rx; exact SeqAt.EqAt.none_bool b
    | int b => obtain ⟨t, rfl⟩ := rx; exact SeqAt.EqAt.none_int b t
    | str b => obtain ⟨t, rfl⟩ := rx; exact SeqAt.EqAt.none_str b t
    | _ => exact absurd (show false = true from fx) Bool.false_ne_true
  | bl a =>
    cases ry
    cases x with
    | non => cases rx; exact SeqAt.EqAt.bool_none a
    | bl b => cases rx; exact SeqAt.EqAt.bool_bool a b
    | int b => obtain ⟨t, rfl⟩ := rx; exact SeqAt.EqAt.bool_int a b t
    | str b => obtain ⟨t, rfl⟩ := rx; exact SeqAt.EqAt.bool_str a b t
    | _ => exact absurd (show false = true from fx) Bool.false_ne_true
  | int a =>
    obtain ⟨t', rfl⟩ := ry
    cases x with
    | non => cases rx; exact SeqAt.EqAt.int_none a t'
    | bl b => cases rx; exact SeqAt.EqAt.int_bool a t' b
    | int b => obtain ⟨t, rfl⟩ := rx; exact SeqAt.EqAt.int_int a t' b t
    | str b => obtain ⟨t, rfl⟩ := rx; exact SeqAt.EqAt.int_str a t' b t
    | _ => exact absurd (show false = true from fx) Bool.false_ne_true
  | str a =>
    obtain ⟨t', rfl⟩ := ry
    cases x with
    | non => cases rx; exact SeqAt.EqAt.str_none a t'
    | bl b => cases rx; exact SeqAt.EqAt.str_bool a t' b
    | int b => obtain ⟨t, rfl⟩ := rx; exact SeqAt.EqAt.str_int a t' b t
    | str b => obtain ⟨t, rfl⟩ := rx; exact SeqAt.EqAt.str_str a t' b t
    | _ => exact absurd (show false = true from fx) Bool.false_ne_true
  | _ => exact absurd (show false = true from fy) Bool.false_ne_true
def eqU (x : V) (u : Value) : Bool := match u with
  | .none => eqV .non x
  | .bool b => eqV (.bl b) x
  | .int i _ => eqV (.int i) x
  | .str z _ => eqV (.str z) x
  | _ => false
theorem eqU_of {x y : V} {u : Value} (r : RelV y u) (f : flatV y = true) : eqU x u = eqV y x := by
  cases y with
  | non => cases r; rfl
  | bl b => cases r; rfl
  | int i => obtain ⟨t, rfl⟩ := r; rfl
  | str z => obtain ⟨t, rfl⟩ := r; rfl
  | _ => exact absurd (show false = true from f) Bool.false_ne_true
theorem any_eqU {x : V} : ∀ {xs : List V} {us : List Value}, Vals xs us → xs.all flatV = true → us.any (eqU x) = xs.any fun y => eqV y x
  | _, _, .nil, _ => rfl
  | y :: xs, u :: us, .cons r t, f => by
    rw [List.all_cons, Bool.and_eq_true] at f
    rw [List.any_cons, List.any_cons, eqU_of r f.1, any_eqU t f.2]
theorem mem_eqAt {A : Around} {s : Shared} {x : V} {v : Value} (rx : RelV x v) (fx : flatV x = true) : ∀ {xs : List V} {us : List Value}, Vals xs us → xs.all flatV = true → ∀ u ∈ us, SeqAt.EqAt A s u v (eqU x u)
  | _, _, .nil, _ => fun u hu => by cases hu
  | y :: xs, u :: us, .cons r t, f => fun u' hu => by
    rw [List.all_cons, Bool.and_eq_true] at f
    rcases List.mem_cons.mp hu with rfl | hu
    · rw [eqU_of r f.1]; exact eqAt_V r rx f.1 fx
    · exact mem_eqAt rx fx t f.2 u' hu
def inV (x : V) (xs : List V) : Bool := xs.any fun y => eqV y x
def rIn (K : PySem.W.Frag) (neg : Bool) : R2 := fun x y H Q => ∃ p xs, y = .ref p ∧ (SqL K H p xs ∨ SqT K H p xs) ∧ flatV x = true ∧ xs.all flatV = true ∧ Q (.bl (if neg then !inV x xs else inV x xs)) H
theorem op_in_seq : OpR X (compareOp .In) (rIn X.K false) := by
  intro pins s σ H x y v u Q I rx ry h
  obtain ⟨p, xs, rfl, hq, fx, fs, q⟩ := h
  cases ry
  rcases hq with hq | hq
  · obtain ⟨its, r, pl, hz⟩ := I.list hq
    refine SeqAt.in_listAt (eqU x) pl.isList (fun w hw => mem_eqAt rx fx r fs w (by simpa using hw)) ⟨.bl _, H, I, rfl, ?_⟩
    rw [show its.toArray.any (eqU x) = its.any (eqU x) by simp, any_eqU r fs]
    exact q
  · obtain ⟨its, r, pl, hz⟩ := I.tuple hq
    refine SeqAt.in_tupleAt (eqU x) pl (fun w hw => mem_eqAt rx fx r fs w (by simpa using hw)) ⟨.bl _, H, I, rfl, ?_⟩
    rw [show its.toArray.any (eqU x) = its.any (eqU x) by simp, any_eqU r fs]
    exact q
theorem call_len_seq : CallR X (.builtin "len") (fun xs H Q => ∃ p ys, xs = [.ref p] ∧ (SqL X.K H p ys ∨ SqT X.K H p ys) ∧ Q (.int ys.length) H) := by
  intro pins s σ H xs us Q I r h
  obtain ⟨p, ys, rfl, hq, q⟩ := h
  obtain ⟨u, rfl, rx⟩ := vals1 r
  cases rx
  have hn := line63
  rcases hq with hq | hq
  · obtain ⟨its, r', pl, hz⟩ := I.list hq
    have hlen := r'.length
    exact Calls.call_len_list pl.isList (by simp only [List.size_toArray] <;> omega) ⟨.int ys.length, H, I.tok _, ⟨s.toks + 1, by rw [List.size_toArray, hlen]⟩, q⟩
  · obtain ⟨its, r', pl, hz⟩ := I.tuple hq
    have hlen := r'.length
    exact len_tuple pl (by simp only [List.size_toArray] <;> omega) ⟨.int ys.length, H, I.tok _, ⟨s.toks + 1, by rw [List.size_toArray, hlen]⟩, q⟩
theorem call_len_str : CallR X (.builtin "len") (fun xs H Q => ∃ z, xs = [.str z] ∧ z.length ≤ sizeLine ∧ Q (.int z.length) H) := by
  intro pins s σ H xs us Q I r h
  obtain ⟨z, rfl, hz, q⟩ := h
  obtain ⟨u, rfl, t, rfl⟩ := vals1 r
  have hn := line63
  exact len_str (by omega) ⟨.int z.length, H, I.tok _, ⟨_, rfl⟩, q⟩
theorem call_list_of : CallR X (.type "list") (fun xs H Q => ∃ p ys, xs = [.ref p] ∧ (SqL X.K H p ys ∨ SqT X.K H p ys) ∧ ∀ l, H l = none → Q (.ref l) (upd H l (.lst ys))) := by
  intro pins s σ H xs us Q I r h
  obtain ⟨p, ys, rfl, hq, q⟩ := h
  obtain ⟨u, rfl, rx⟩ := vals1 r
  cases rx
  have fin : ∀ (its : List Value), Vals ys its → ys.length ≤ sizeLine → ∀ (h' : Heap) (c' : Nat), (∀ b o', s.heap.get? b = some o' → h'.get? b = some o') →
      h'.get? s.heap.objs.size = some { cls := .type "list", dict := none, data := .seq its.toArray c', slots := #[] } → EP X pins σ Q (.ref s.heap.objs.size) { s with heap := h' } := fun its r' hz h' c' kp e =>
    ⟨.ref s.heap.objs.size, _, I.laid (t' := s.toks) kp (Nat.le_refl _) (show ObjOk X.prog X.w _ h' _ (.lst ys) from ⟨hz, its, c', r', e⟩), rfl, q _ (I.hok.fresh (Nat.le_refl _))⟩
  rcases hq with hq | hq
  · obtain ⟨its, r', pl, hz⟩ := I.list hq
    have hlen := r'.length
    obtain ⟨o, ho, hc, n, hd⟩ := pl.isList
    exact call_list_seq p (.inl rfl) ho hc hd (fun h' c' kp e => fin its r' hz h' c' kp e) (by simp only [List.size_toArray] <;> omega)
  · obtain ⟨its, r', pl, hz⟩ := I.tuple hq
    have hlen := r'.length
    obtain ⟨o, ho, hc, n, hd⟩ := pl
    exact call_list_seq p (.inr rfl) ho hc hd (fun h' c' kp e => fin its r' hz h' c' kp e) (by simp only [List.size_toArray] <;> omega)
def tyV (K : PySem.W.Frag) (T : String) (x : V) (H : Hp) : Prop := match x with
  | .str _ => T = "str"
  | .int _ => T = "int"
  | .ref p => (T = "list" ∧ ∃ xs, SqL K H p xs) ∨ (T = "tuple" ∧ ∃ o, K.lookup p = some o ∧ o.cls = .type "tuple" ∧ o.dict = none) ∨
      (T = "dict" ∧ ((∃ kvs, H p = some (.dK kvs)) ∨ ∃ kvs, H p = some (.dT kvs))) ∨ (T = "set" ∧ ∃ S n, H p = some (.set S n))
  | _ => False
theorem tyV_is {pins : List (Addr × Obj)} {σ : St} {H : Hp} {s : Shared} {T : String} {x : V} {v : Value} (I : Inv X pins σ H s) (r : RelV x v) (ty : tyV X.K T x H) :
    s.TypeIs v T ∧ ∀ a, v = .ref a → ∃ ob, s.heap.get? a = some ob ∧ ob.dict = none := by
  cases x with
  | str z =>
    obtain ⟨t, rfl⟩ := r
    cases (show T = "str" from ty)
    exact ⟨typeIs_str s z t, fun _ e => nomatch e⟩
  | int i =>
    obtain ⟨t, rfl⟩ := r
    cases (show T = "int" from ty)
    exact ⟨typeIs_int s i t, fun _ e => nomatch e⟩
  | ref p =>
    cases r
    rcases ty with ⟨rfl, xs, hq⟩ | ⟨rfl, o, hk, hc, hd⟩ | ⟨rfl, hk⟩ | ⟨rfl, S, n, hk⟩
    · obtain ⟨its, _, pl, _⟩ := I.list hq
      refine ⟨pl.isList.typeIs, fun a e => ?_⟩
      cases e
      obtain ⟨o, n, e, c, hd, _⟩ := pl
      exact ⟨o, e, hd⟩
    · refine ⟨⟨o, I.kIn p o hk, hc⟩, fun a e => ?_⟩
      cases e
      exact ⟨o, I.kIn _ o hk, hd⟩
    · have z : ∃ o, s.heap.get? p = some o ∧ o.ExactDict := by
        rcases hk with ⟨kvs, hk⟩ | ⟨kvs, hk⟩
        · obtain ⟨_, _, _, _, o, _, _, e, ex, _⟩ := I.hok p _ hk
          exact ⟨o, e, ex⟩
        · obtain ⟨_, _, _, _, o, _, _, e, ex, _⟩ := I.hok p _ hk
          exact ⟨o, e, ex⟩
      obtain ⟨o, e, ex⟩ := z
      refine ⟨⟨o, e, ex.1⟩, fun a e2 => ?_⟩
      cases e2
      exact ⟨o, e, ex.2.1⟩
    · obtain ⟨o, _, _, _, e, ex, _⟩ := I.hok p _ hk
      refine ⟨⟨o, e, ex.1⟩, fun a e2 => ?_⟩
      cases e2
      exact ⟨o, e, ex.2.1⟩
  | _ => exact False.elim ty
def tBM (K : PySem.W.Frag) (T : String) (r : V → List V → Hp → VK → Prop) (to : TE) (t : TA) : TE := fun σ H Q => to σ H fun x H1 => tyV K T x H1 ∧ t σ H1 fun xs H2 => r x xs H2 Q
variable {o e : Expr} {es : List Expr} {to : TE} {t : TA} {name : Str} {apos cpos : Pos} {T id : String} {r : V → List V → Hp → VK → Prop}
theorem pe_bm (pa : PlainAttrs T) (slot : Slot T name id) (hty : typeOf (.builtin id) = pure (.type "method_descriptor")) (hm : MtR X id r) (ho : PE X o to) (ha : PA X (e :: es) t)
    (hbase : attributeBase o name X.env (eval o X.env) = eval o X.env := by rfl)
    (hfew : ((backTo cpos (starEach (e :: es) X.env)).all (fun x => !x.1) && (backToKw cpos (keywordEach [] X.env)).all (fun x => x.1.isSome)
      && decide ((e :: es).length + ([] : List Keyword).length + (if ([] : List Keyword).isEmpty then 0 else 1) < 30)) = true := by rfl)
    (hline : (apos.endLine == cpos.line) = true := by rfl) (hs : starEach (e :: es) X.env = (false, eval e X.env) :: starEach es X.env := by rfl) (hplain : (backTo cpos (starEach es X.env)).any (·.1) = false := by rfl) :
    PE X (.Call (.Attribute o name apos) (e :: es) [] cpos) (tBM X.K T r to t) := by
  intro pins s σ H Q I h
  refine wpAny_Call_method_late hbase hfew hline rfl (thn (ho pins s σ H _ I h) fun v s1 ⟨x, H1, I1, r1, ty, q1⟩ => ?_)
  obtain ⟨h1, h2⟩ := tyV_is I1 r1 ty
  refine ⟨T, id, pa, slot, hty, h1, h2, ?_⟩
  have hA := ha cpos pins s1 σ H1 _ I1 q1
  rw [hs] at hA ⊢
  refine Calls.callWith_builtin (by show (false || (backTo cpos (starEach es X.env)).any (·.1)) = false; rw [hplain] <;> rfl) (Calls.evalArgs_plain ?_)
  exact thn hA fun us s2 ⟨vs, H2, I2, r2, q2⟩ => hm pins s2 σ H2 x vs v us Q I2 r1 r2 q2
end
end L2
namespace L2
open PySem PySem.Spec PyProof.Rows
def MtM (X : Cx) (id : String) (r : V → List V → Hp → VK → Prop) : Prop :=
  ∀ (pins : List (Addr × Obj)) (s : Shared) (σ : St) (H : Hp) (x : V) (xs : List V) (v : Value) (us : List Value) (Q : VK), Inv X pins σ H s → RelV x v → Vals xs us → r x xs H Q →
    wpAny (model X.prog X.w) X.A (call (.builtin id) (v :: us)) (EP X pins σ Q) X.xe s
theorem Vals.one : ∀ {x : V} {us : List Value}, Vals [x] us → ∃ u, us = [u] ∧ RelV x u
  | _, _, .cons r .nil => ⟨_, rfl, r⟩
section
variable {X : Cx} {pins : List (Addr × Obj)} {σ : St} {H : Hp} {s : Shared} {l b : Addr} {xs ys zs : List V}
theorem Inv.lset {its its' : List Value} {n : Nat} {f : Array Value → Array Value} {t' : Nat} (I : Inv X pins σ H s) (hH : H l = some (.lst xs))
    (e : s.heap.get? l = some { cls := .type "list", data := .seq its.toArray n }) (hf : f its.toArray = its'.toArray) (hv : Vals ys its') (hz : ys.length ≤ sizeLine) :
    Inv X pins σ (upd H l (.lst ys)) { s with heap := s.heap.update l (Obj.mapSeq f), toks := t' } := by
  have q := PySem.IsL.update e f
  rw [hf] at q
  refine I.write (x := l) (e := l) (by rw [hH]; exact trivial) (.inl rfl) (fun b' u hb hu => (Heap.get?_update_other s.heap (Obj.mapSeq f) (Ne.symm hb)).trans hu) ⟨_, q⟩ ?_
  exact ⟨hz, its', _, hv, q⟩
theorem Inv.lnew {its : List Value} {t' : Nat} (I : Inv X pins σ H s) (hv : Vals ys its) (hz : ys.length ≤ sizeLine) :
    Inv X pins σ (upd H s.heap.objs.size (.lst ys)) { s with heap := s.heap.push { cls := .type "list", data := .seq its.toArray }, toks := t' } :=
  I.laid (fun _ _ q => Heap.get?_push_of_some _ q) (Nat.le_refl _) ⟨hz, its, 0, hv, Heap.get?_push_size _ rfl⟩
theorem Inv.fresh (I : Inv X pins σ H s) : H s.heap.objs.size = none := I.hok.fresh (Nat.le_refl _)
theorem Inv.lstM (I : Inv X pins σ H s) (hH : H l = some (.lst xs)) : xs.length ≤ sizeLine ∧ ∃ (its : List Value) (n : Nat), Vals xs its ∧ xs.length = its.length ∧ s.heap.get? l = some { cls := .type "list", data := .seq its.toArray n } := by
  obtain ⟨z, its, n, r, e⟩ := I.hok l _ hH
  exact ⟨z, its, n, r, r.length, e⟩
end
section
variable {X : Cx}
def rAppend : V → List V → Hp → VK → Prop := fun x vs H Q => ∃ l xs y, x = .ref l ∧ vs = [y] ∧ H l = some (.lst xs) ∧ xs.length < sizeLine ∧ Q .non (upd H l (.lst (xs ++ [y])))
theorem mt_append : MtM X "list.append" rAppend := by
  intro pins s σ H x vs v us Q I rx rv h
  obtain ⟨l, xs, y, rfl, rfl, hH, hz, q⟩ := h
  cases rx
  obtain ⟨u, rfl, ru⟩ := rv.one
  obtain ⟨z, its, n, r, hl, e⟩ := I.lstM hH
  refine call_meets F.slot_list_append ⟨_, e, rfl⟩ F.entry_list_append (F.args_list_append_2 _ _) (PySem.list_append l its.toArray n u (by rw [List.size_toArray]; omega)) ⟨e, ?_⟩
  refine ⟨.non, _, I.lset (its' := its ++ [u]) hH e (by simp) (r.append (.cons ru .nil)) ?_, rfl, q⟩
  rw [List.length_append, List.length_singleton]
  omega
def rCat : R2 := fun x y H Q => ∃ l b xs zs, x = .ref l ∧ y = .ref b ∧ H l = some (.lst xs) ∧ H b = some (.lst zs) ∧ xs.length + zs.length ≤ sizeLine ∧ ∀ p, H p = none → Q (.ref p) (upd H p (.lst (xs ++ zs)))
theorem op_cat : OpR X (binaryOp .Add) rCat := by
  intro pins s σ H x y v u Q I rx ry h
  obtain ⟨l, b, xs, zs, rfl, rfl, hH, hB, hz, q⟩ := h
  cases rx
  cases ry
  obtain ⟨z, its, n, r, hl, e⟩ := I.lstM hH
  obtain ⟨z2, its2, n2, r2, hl2, e2⟩ := I.lstM hB
  refine PySem.P.add_list e e2 ?_ (by rw [List.size_toArray, List.size_toArray]; omega)
  have ea : its.toArray ++ its2.toArray = (its ++ its2).toArray := by simp
  rw [ea]
  exact ⟨.ref _, _, I.lnew (t' := s.toks) (r.append r2) (by rw [List.length_append]; omega), rfl, q _ I.fresh⟩
end
end L2
namespace Att
open PySem PySem.W PySem.Calls PyProof.Rows
theorem ints_of_wellAll {P : Params} {h : Heap} : ∀ (ns : List Int) (vs : List Value), WellAll P h vs (ns.map WData.int) → IntsAre vs ns := by
  intro ns
  induction ns with
  | nil =>
    intro vs w
    rw [List.map_nil] at w
    cases w
    exact .nil
  | cons n ns ih =>
    intro vs w
    rw [List.map_cons] at w
    cases w with
    | cons a b =>
      cases a
      exact .cons _ _ (ih _ b)
theorem script_of {l : OpenLaw} {n : Nat} (hn : l.most = some n) {P : Params} {h : Heap} {args : List WData} {vals : List Value}
    (hpre : l.row.toRowW.claim.pre args = true) (hwl : WellAll P h vals args) :
    ∃ a vs ns, vals = [Value.ref a] ∧ args = [WData.list (ns.map WData.int)] ∧ h.get? a = some { cls := .type "list", data := .seq vs.toArray } ∧ IntsAre vs ns ∧ ns.length ≤ n := by
  have hsh : WShape.hasAll [] args [.list .int] = true := (pre_splitW hpre).1
  have hc : l.pre.holds [] { args := args } = true := (pre_splitW hpre).2
  obtain ⟨d, r, rfl, h1, h2⟩ := hasAllW_cons hsh
  obtain rfl := hasAllW_nil h2
  obtain ⟨xs, rfl, h3⟩ := hasW_list h1
  obtain ⟨ns, rfl⟩ := items_int h3
  have hlen : ns.length ≤ n := by
    unfold OpenLaw.pre at hc
    have h4 : (WTm.not (.lt (.lit (.int (n : Int))) (.len (.arg 0)))).holds [] { args := [.list (ns.map .int)] } = true := by
      have h4 := (holds_andW hc).1
      rw [hn] at h4
      exact h4
    have h5 := condW_of h4 (w_not (w_lt w_lit (w_len_list (w_arg rfl))))
    rw [List.length_map] at h5
    refine Nat.le_of_not_lt fun q => ?_
    have q' : (n : Int) < ((ns.length : Nat) : Int) := by omega
    first
      | (rw [decide_eq_true q'] at h5; exact absurd h5 (by decide))
      | (simp at h5; omega)
  cases hwl with
  | cons w1 w2 =>
    cases w2
    cases w1 with
    | list ho hall => exact ⟨_, _, ns, rfl, rfl, ho, ints_of_wellAll ns _ hall, hlen⟩
theorem post_true (l : OpenLaw) (args : List WData) : l.row.toRowW.claim.post args (.bool true) args = true :=
  postW_of (r := l.row.toRowW) (X := (true == true))
    (show WShape.has [] (.bool true) .bool = true by first | rfl | decide | simp [WShape.has, WShape.arms, WShape.armsAll])
    (show (WTm.eq .res (.lit (.bool true))).value [] { args := args, res := some (.bool true), after := args } = some (.bool (true == true)) from w_eq_bool (w_res rfl) w_lit) rfl
theorem attach_call {l : OpenLaw} {n : Nat} {q : Program} {loose : List Str} {XP : (Str → Option Value) → Heap → Prop} {YP : World → Heap → Prop} {d : DefRec}
    (hn : l.most = some n) (hdf : d.params.defaults = [])
    (call : ∀ (w : World) (s₀ s₁ : Shared) (mg mb : Str → Option Value) (fa : Addr) (o : Obj) (pm cd doc : Value) (a : Addr) (vs : List Value) (ns : List Int),
      Ground q loose [] XP w s₀ mg mb s₁.heap → YP w s₁.heap →
      s₁.heap.get? fa = some o → o.data = .func (docDef d.name d.params d.body d.scope pm cd doc) → s₁.heap.CodeRec cd d.name → mg d.name = some (.ref fa) →
      s₁.heap.get? a = some { cls := .type "list", data := .seq vs.toArray } → IntsAre vs ns → ns.length ≤ n → s₁.gens = #[] →
      codeAny (model l.prog w) callerA (.call (.ref fa) ⟨[.ref a], []⟩) (fun r s' => r = .ok (.ret (.bool true)) ∧ OldK s₁.heap s'.heap ∧ s'.os = s₁.os ∧ AllBare s'.gens) s₁) :
    WalkO q loose XP YP l.row.toRowW d [] (fun f vs => PySem.call f vs) := by
  intro w s₀ s₁ mg mb G Y fa o pm cd doc dV kV ho hd hcd hD hmg hg args vals as hpre hlay hrd hwl hlo
  obtain rfl : dV = .none := Dflts.none hD hdf
  obtain rfl : kV = .none := Dflts.noKw hD
  obtain ⟨a, vs, ns, rfl, rfl, hobj, hints, hlen⟩ := script_of hn hpre hwl
  refine enter_call (codeAny_mono (call w s₀ s₁ mg mb fa o pm cd doc a vs ns G Y ho (fd_plain hd) hcd hmg hobj hints hlen hg) fun r s' hq => ?_)
  obtain ⟨rfl, h2, h3, h4⟩ := hq
  exact ⟨.inl ⟨.bool true, .bool true, [], rfl, fun _ => rfl, .bool true, post_true l _, fun _ => ⟨List.Pairwise.nil, fun _ hm => (nomatch hm)⟩⟩, h2, h3, h4⟩
end Att
namespace L2
open PySem PySem.Spec PyProof.Rows
theorem vals_ints : ∀ {vs : List Value} {ns : List Int}, IntsAre vs ns → Vals (ns.map V.int) vs
  | _, _, .nil => .nil
  | _, _, .cons n t h => .cons ⟨t, rfl⟩ (vals_ints h)
def Only (H : Hp) : Prop := ∀ b, H b = none ∨ ∃ o xs, H b = some (.frz o (.lst xs))
theorem law_call {P : Program} {w : World} {K : PySem.W.Frag} {mg mb : Str → Option Value} {CX : CXT} {k : Nat} {fa a : Addr} {fd : FuncData} {x : Str} {sp : Sp} {s₁ : Shared} {vs : List Value} {ns : List Int}
    (KX : K.In s₁.heap) (hns : s₁.heap.Ns mainGlobals mg) (hb : s₁.heap.Ns builtinsNs mb) (hbb : ∀ x : Str, x ≠ "__name__" → mb x = bootBuiltins x) (hlim : s₁.heap.NoLimit) (hg : s₁.gens = #[])
    (ha : s₁.heap.get? a = some { cls := .type "list", data := .seq vs.toArray }) (hi : IntsAre vs ns) (hl : ns.length ≤ sizeLine) (hr : Room k callerA)
    (F : ∀ base : Heap, K.In base → base.Ns mainGlobals mg → FnOk P w K mg base CX k fa fd [x] sp) (hbind : ∀ (s : Shared) (u : Value), BindsTo s fd ⟨[u], []⟩ [(x, u)])
    (hsp : ∀ H : Hp, Only H → SqL K H a (ns.map V.int) → sp [.ref a] H (fun v _ => v = .bl true) fun _ _ _ => False)
    (hCX : ∀ H e s', CX [] H s₁ (fun _ _ _ => False) e s' → False) :
    codeAny (model P w) callerA (.call (.ref fa) ⟨[.ref a], []⟩) (fun r s' => r = .ok (.ret (.bool true)) ∧ OldK s₁.heap s'.heap ∧ s'.os = s₁.os ∧ AllBare s'.gens) s₁ := by
  have rv := vals_ints hi
  have lenV := hi.length
  -- from an abstract heap in which nothing but the script may be tracked
  have core : ∀ H : Hp, Only H → SqL K H a (ns.map V.int) → HOk P w H s₁.heap → (∀ b, H b ≠ none → b = a) → (H a ≠ none → K.lookup a = none) →
      codeAny (model P w) callerA (.call (.ref fa) ⟨[.ref a], []⟩) (fun r s' => r = .ok (.ret (.bool true)) ∧ OldK s₁.heap s'.heap ∧ s'.os = s₁.os ∧ AllBare s'.gens) s₁ := by
    intro H hO hS hok hA hK
    have base_of : ∀ {b : Addr} {o : Obj}, s₁.heap.get? b = some o → H b = none → (hidT s₁.heap H).get? b = some o := fun e n => hidT_get e n
    have noA : ∀ {b : Addr} {o : Obj} {es : Array DictEntry} {ep : Nat}, s₁.heap.get? b = some o → o.data = .dict es ep → H b = none := fun {b o es ep} e d => by
      cases q : H b with
      | none => rfl
      | some u =>
        have e' : b = a := hA b (by rw [q]; simp)
        subst e'
        rw [ha] at e; cases e
        have d' : Data.seq vs.toArray _ = Data.dict es ep := d
        cases d'
    have nsK : ∀ {b : Addr} {m : Str → Option Value}, s₁.heap.Ns b m → (hidT s₁.heap H).Ns b m := fun {b m} ⟨o, es, ep, e, d, r⟩ => ⟨o, es, ep, base_of e (noA e d), d, r⟩
    have hKb : K.In (hidT s₁.heap H) := fun b o e => base_of (KX b o e) (by
      cases q : H b with
      | none => rfl
      | some u =>
        have e' : b = a := hA b (by rw [q]; simp)
        subst e'
        rw [hK (by rw [q]; simp)] at e; cases e)
    have hM : Mod K mg (hidT s₁.heap H) := ⟨hKb, nsK hns, ⟨mb, nsK hb, hbb⟩, let ⟨mc, h1, h2⟩ := hlim; ⟨mc, nsK h1, h2⟩⟩
    have e0 : Env0 P w K mg (hidT s₁.heap H) callerA [] s₁ H := ⟨rfl, hM, fun b o e => of_hidT e, Nat.le_of_eq (hidT_size _ _), trivial, fun b hb => absurd (show b ∈ ([] : List Addr) from hb) (by simp), hok, .of_eq hg⟩
    refine codeAny_mono ((F _ hKb (nsK hns)).run callerA [] s₁ H ⟨[.ref a], []⟩ [.ref a] [.ref a] _ _ hr e0 (hbind s₁ (.ref a)) (.cons rfl .nil) (hsp H hO hS)) fun r s' h => ?_
    cases r with
    | error e => exact (hCX H e s' h).elim
    | ok fl =>
      cases fl with
      | next => exact False.elim h
      | brk => exact False.elim h
      | cont => exact False.elim h
      | ret u =>
        obtain ⟨v, H', os, bare, un, hok', r', q⟩ := h
        have q' : v = .bl true := q
        subst q'
        obtain rfl : u = Value.bool true := r'
        refine ⟨rfl, OldK.of_keep fun b o e => ?_, os, bare⟩
        cases q : H b with
        | none => exact un.keep b o e q (by intro z; exact absurd (show b ∈ ([] : List Addr) from z) (by simp)) (by simp)
        | some u =>
          rcases hO b with z | ⟨ob, xs, z⟩
          · rw [q] at z; cases z
          · have z2 := un.frzs b ob _ z
            obtain ⟨e1, _⟩ := hok b _ z
            obtain ⟨e2, _⟩ := hok' b _ z2
            rw [e] at e1; cases e1
            exact e2
  cases hk : K.lookup a with
  | some o =>
    -- the script is one of the module's own objects
    have e := KX a o hk
    rw [ha] at e
    cases e
    refine core (fun _ => none) (fun _ => .inl rfl) (.inr ⟨_, vs.toArray, _, hk, rfl, rfl, rfl, by rw [List.size_toArray, lenV]; exact hl, by simpa using rv⟩) (fun b u z => by have z' : (none : Option HO) = some u := z; cases z') (fun b z => absurd rfl z) fun z => absurd rfl z
  | none =>
    refine core (fun b => if b = a then some (.frz { cls := .type "list", data := .seq vs.toArray } (.lst (ns.map V.int))) else none) (fun b => ?_) (.inl (.inr ⟨{ cls := .type "list", data := .seq vs.toArray }, if_pos rfl⟩)) (fun b u z => ?_) (fun b z => ?_) fun _ => hk
    · by_cases hb : b = a
      · exact .inr ⟨_, _, if_pos hb⟩
      · exact .inl (if_neg hb)
    · by_cases hb : b = a
      · have z' := (if_pos hb).symm.trans z
        cases z'
        subst hb
        exact ⟨ha, by rw [List.length_map]; exact hl, vs, _, rv, ha⟩
      · have z' := (if_neg hb).symm.trans z
        cases z'
    · by_cases hb : b = a
      · exact hb
      · exact absurd (if_neg hb) z
end L2
namespace L2
open PySem PySem.Spec PyProof.Rows
abbrev KOf {K : PySem.W.Frag} {h : Heap} (_ : K.In h) : PySem.W.Frag := K
theorem walk_of {l : PySem.W.OpenLaw} {n k : Nat} {q : Program} {loose : List Str} {XP : (Str → Option Value) → Heap → Prop} {YP : World → Heap → Prop} {d : DefRec} {K : Params → PySem.W.Frag} {CX : World → CXT} {sp : World → Sp} {x : Str}
    (hn : l.most = some n) (hn2 : n ≤ sizeLine) (hdf : d.params.defaults = []) (hr : Room k callerA)
    (hY : ∀ (w : World) (h : Heap), YP w h → (K w.params).In h)
    (F : ∀ (w : World) (mg : Str → Option Value) (fa : Addr) (h : Heap), (K w.params).In h → h.Ns mainGlobals mg → mg d.name = some (.ref fa) →
      ∃ fd : FuncData, (∀ (s : Shared) (u : Value), BindsTo s fd ⟨[u], []⟩ [(x, u)]) ∧
        ∀ base : Heap, (K w.params).In base → base.Ns mainGlobals mg → FnOk l.prog w (K w.params) mg base (CX w) k fa fd [x] (sp w))
    (hsp : ∀ (w : World) (H : Hp) (a : Addr) (ns : List Int), ns.length ≤ n → Only H → SqL (K w.params) H a (ns.map V.int) → sp w [.ref a] H (fun v _ => v = .bl true) fun _ _ _ => False)
    (hCX : ∀ (w : World) (H : Hp) (s : Shared) (e : Value) (s' : Shared), CX w [] H s (fun _ _ _ => False) e s' → False) :
    PySem.W.WalkO q loose XP YP l.row.toRowW d [] (fun f vs => PySem.call f vs) := by
  refine Att.attach_call hn hdf fun w s₀ s₁ mg mb fa o pm cd doc a vs ns G Y ho hd hcd hmg hobj hints hlen hg => ?_
  have KX := hY w _ Y
  obtain ⟨fd, hb, hF⟩ := F w mg fa _ KX G.T.g hmg
  exact law_call KX G.T.g G.T.b G.T.builtins G.T.nolimit hg hobj hints (Nat.le_trans hlen hn2) hr hF hb (fun H hO hS => hsp w H a ns hlen hO hS) fun H e s' => hCX w H s₁ e s'
end L2
namespace L2
open PySem PySem.Spec PyProof.Rows
def inClass (s : Stmt) (j : Nat) : Stmt := match s with
  | .ClassDef _ _ _ body _ _ _ _ _ _ _ => body.getD j (.Pass ⟨0, 0, 0, 0⟩)
  | _ => .Pass ⟨0, 0, 0, 0⟩
def defArgs (s : Stmt) : Arguments := match s with
  | .FunctionDef _ a _ _ _ _ _ _ _ _ => a
  | _ => { posonlyargs := [], args := [], vararg := none, kwonlyargs := [], kw_defaults := [], kwarg := none, defaults := [] }
def defBody (s : Stmt) : List Stmt := match s with
  | .FunctionDef _ _ b _ _ _ _ _ _ _ => b
  | _ => []
def defScope (s : Stmt) : Scope := match s with
  | .FunctionDef _ _ _ _ _ _ sc _ _ _ => sc
  | _ => { kind := .function, names := [], isGenerator := false, isCoroutine := false }
abbrev E0 : XK := fun _ _ _ => False
structure Fun (K : PySem.W.Frag) (x qual : Str) (st : Stmt) (f : Addr) (fd : FuncData) : Prop where
  ex : ∃ (oc : Value) (od : Option Addr) (kV doc pm : Value) (an : Option Addr) (cdv ct : Value) (osl : Array (Option Value)),
    fd = PySem.W.fnOf x qual (defArgs st) (defBody st) (defScope st) .none kV doc pm an cdv ct ∧ K.lookup f = some ⟨oc, od, .func fd, osl⟩ ∧ PySem.W.codeIn K cdv qual = true
  kp : PySem.W.keepIn K (.ref f) = true
section
variable {P : Program} {w : World} {K : PySem.W.Frag} {mg : Str → Option Value} {base : Heap}
theorem Fun.binds {x qual : Str} {st : Stmt} {f : Addr} {fd : FuncData} {ps : List Str} (F : Fun K x qual st f fd)
    (h : ∀ (kV doc pm : Value) (an : Option Addr) (cdv ct : Value) (us : List Value), us.length = ps.length → bindArgs (PySem.W.fnOf x qual (defArgs st) (defBody st) (defScope st) .none kV doc pm an cdv ct) ⟨us, []⟩ = pure (ps.zip us)) : Binds K fd ps [] := by
  obtain ⟨oc, od, kV, doc, pm, an, cdv, ct, osl, rfl, lk, hcd⟩ := F.ex
  exact .all (h kV doc pm an cdv ct)
theorem fun_mk {x qual : Str} {st : Stmt} {f : Addr} {oc : Value} {od an : Option Addr} {osl : Array (Option Value)} {kV doc pm cdv ct : Value} (l : K.lookup f = some ⟨oc, od, .func (PySem.W.fnOf x qual (defArgs st) (defBody st) (defScope st) .none kV doc pm an cdv ct), osl⟩)
    (c : PySem.W.codeIn K cdv qual = true) (k : PySem.W.keepIn K (.ref f) = true) : Fun K x qual st f (PySem.W.fnOf x qual (defArgs st) (defBody st) (defScope st) .none kV doc pm an cdv ct) := ⟨⟨oc, od, kV, doc, pm, an, cdv, ct, osl, rfl, l, c⟩, k⟩
end
theorem small1000 {n : Nat} (h : n ≤ 1000) : n < sizeLine := Nat.lt_of_le_of_lt h (by decide)
section
variable {X : Cx}
theorem pv (i : Nat) {x : Str} {pos : Pos} (hN : X.N[i]? = some x := by rfl) (hv : Vis X.env.scope x := by first | exact Or.inl rfl | exact Or.inr (Or.inl rfl) | exact Or.inr (Or.inr rfl)) (hd : (x == ("__debug__" : Str)) = false := by decide)
    (hcd : (x == ("__classdict__" : Str)) = false := by decide) : PE X (.Name x pos) (tVar i) := pe_var hN hv hd hcd
end
theorem iteF {A B : Prop} (h : B) : if false = true then A else B := by
  rw [if_neg Bool.false_ne_true]
  exact h
theorem iteT {A B : Prop} (h : A) : if true = true then A else B := by
  rw [if_pos rfl]
  exact h
theorem ite2 {c A B : Prop} [Decidable c] (h1 : c → A) (h2 : ¬ c → B) : if c then A else B := by
  by_cases h : c
  · rw [if_pos h]
    exact h1 h
  · rw [if_neg h]
    exact h2 h
def Same (H H' : Hp) : Prop := ∀ b o, H b = some o → H' b = some o
theorem Same.refl (H : Hp) : Same H H := fun _ _ h => h
theorem Same.trans {H H1 H2 : Hp} (a : Same H H1) (b : Same H1 H2) : Same H H2 := fun c o h => b c o (a c o h)
theorem Same.free {H H' : Hp} (e : Same H H') {l : Addr} (h : H' l = Option.none) : H l = Option.none := by
  cases q : H l with
  | none => rfl
  | some o =>
    rw [e l o q] at h
    cases h
theorem Same.seq {K : PySem.W.Frag} {H H' : Hp} {a : Addr} {xs : List V} (e : Same H H') (h : SqL K H a xs) : SqL K H' a xs := by
  rcases h with (h | ⟨o, h⟩) | h
  · exact .inl (.inl (e _ _ h))
  · exact .inl (.inr ⟨o, e _ _ h⟩)
  · exact .inr h
end L2
namespace L2
open PySem PySem.Spec PyProof.Rows
section
variable {X : Cx}
def CDivW (_ j : Int) : Prop := j ≠ 0 ∧ j.natAbs.log2 < 9000
theorem op_fdivW : OpR X (binaryOp .FloorDiv) (rI CDivW fun i j => .int (i.fdiv j)) := opI fun _ _ _ _ _ _ _ hc q => floordiv_int hc.1 q (.inl (PyProof.noPylong_of_log2 hc.2))
theorem bits_le {i : Int} {k : Nat} (h : i.natAbs < 2 ^ k) : Builtin.Int.intBits i ≤ k := by
  unfold Builtin.Int.intBits
  split
  · exact Nat.zero_le _
  · rename_i z
    have z' : i.natAbs ≠ 0 := fun e => z (beq_iff_eq.mpr (Int.natAbs_eq_zero.mp e))
    exact (Nat.log2_lt z').mpr h
def CMulW (i j : Int) : Prop := i.natAbs < 2 ^ 10000 ∧ j.natAbs < 2 ^ 10000
theorem CMulW.ok {i j : Int} (h : CMulW i j) : IntMulOk i j := .of_bits (Nat.le_trans (bits_le h.1) (by decide)) (Nat.le_trans (bits_le h.2) (by decide))
theorem op_mulW : OpR X (binaryOp .Mult) (rI CMulW fun i j => .int (i * j)) := opI fun _ _ _ _ _ _ _ hc q => mul_int q hc.ok
end
mutual
inductive DV (K : PySem.W.Frag) (H : Hp) : V → PyData → Prop
  | non : DV K H .non .none
  | bl (b : Bool) : DV K H (.bl b) (.bool b)
  | int (i : Int) : DV K H (.int i) (.int i)
  | str (x : Str) : DV K H (.str x) (.str x)
  | lst {a : Addr} {xs : List V} {ds : List PyData} : SqL K H a xs → DVs K H xs ds → DV K H (.ref a) (.list ds)
  | tup {a : Addr} {xs : List V} {ds : List PyData} : SqT K H a xs → DVs K H xs ds → DV K H (.ref a) (.tuple ds)
  | dct {a : Addr} {kvs : List (Key × V)} : H a = some (.dK kvs) → DV K H (.ref a) (.dict [])
inductive DVs (K : PySem.W.Frag) (H : Hp) : List V → List PyData → Prop
  | nil : DVs K H [] []
  | cons {v : V} {vs : List V} {d : PyData} {ds : List PyData} : DV K H v d → DVs K H vs ds → DVs K H (v :: vs) (d :: ds)
end
section
variable {X : Cx} {pins : List (Addr × Obj)} {σ : St} {H : Hp} {s : Shared}
mutual
theorem DV.reads (I : Inv X pins σ H s) : ∀ {v : V} {d : PyData}, DV X.K H v d → d.canLay0 = true → ∀ {u : Value}, RelV v u → ∃ as, Reads s.heap u d as
  | _, _, .non, _, _, r => by cases r; exact ⟨_, .none⟩
  | _, _, .bl b, _, _, r => by cases r; exact ⟨_, .bool b⟩
  | _, _, .int i, _, _, r => by obtain ⟨t, rfl⟩ := r; exact ⟨_, .int i t⟩
  | _, _, .str x, _, _, r => by obtain ⟨t, rfl⟩ := r; exact ⟨_, .str x t⟩
  | _, _, .lst h q, c, _, r => by
    cases r
    obtain ⟨its, rv, pl, _⟩ := I.list h
    obtain ⟨as, ra⟩ := DVs.reads I q c rv
    obtain ⟨o, ho, hc, n, hd⟩ := id pl.isList
    exact ⟨_, .list ho hc hd ra⟩
  | _, _, .tup h q, c, _, r => by
    cases r
    obtain ⟨its, rv, pl, _⟩ := I.tuple h
    obtain ⟨as, ra⟩ := DVs.reads I q c rv
    obtain ⟨o, ho, hc, n, hd⟩ := id pl
    exact ⟨_, .tuple ho hc hd ra⟩
  | _, _, .dct h, c, _, r => nomatch c
theorem DVs.reads (I : Inv X pins σ H s) : ∀ {vs : List V} {ds : List PyData}, DVs X.K H vs ds → PyData.canLayAll0 ds = true → ∀ {us : List Value}, Vals vs us → ∃ as, ReadsAll s.heap us ds as
  | _, _, .nil, _, _, r => by cases r; exact ⟨_, .nil⟩
  | _, _, .cons h q, c, _, r => by
    rw [PyData.canLayAll0] at c
    cases r with
    | cons r1 r2 =>
      obtain ⟨a1, z1⟩ := DV.reads I h (Bool.and_eq_true_iff.mp c).1 r1
      obtain ⟨a2, z2⟩ := DVs.reads I q (Bool.and_eq_true_iff.mp c).2 r2
      exact ⟨_, .cons z1 z2⟩
end
end
section
variable {X : Cx}
def rEqD (K : PySem.W.Frag) : R2 := fun x y H Q => ∃ d e, DV K H x d ∧ DV K H y e ∧ SeqAt.shaped d = true ∧ SeqAt.shaped e = true ∧ Q (.bl (PyData.eqv d e)) H
def rNeD (K : PySem.W.Frag) : R2 := fun x y H Q => ∃ d e, DV K H x d ∧ DV K H y e ∧ SeqAt.shaped d = true ∧ SeqAt.shaped e = true ∧ Q (.bl (!PyData.eqv d e)) H
theorem op_eqD (hu : X.A.units + 64 < cLine) : OpR X (compareOp .Eq) (rEqD X.K) := by
  intro pins s σ H x y v u Q I rx ry h
  obtain ⟨d, e, hd, he, sd, se, q⟩ := h
  obtain ⟨a1, r1⟩ := hd.reads I (SeqAt.canLay_of_shaped sd) rx
  obtain ⟨a2, r2⟩ := he.reads I (SeqAt.canLay_of_shaped se) ry
  exact eq_dataH r1 r2 sd se hu ⟨.bl _, H, I, rfl, q⟩
theorem op_neD (hu : X.A.units + 64 < cLine) : OpR X (compareOp .NotEq) (rNeD X.K) := by
  intro pins s σ H x y v u Q I rx ry h
  obtain ⟨d, e, hd, he, sd, se, q⟩ := h
  obtain ⟨a1, r1⟩ := hd.reads I (SeqAt.canLay_of_shaped sd) rx
  obtain ⟨a2, r2⟩ := he.reads I (SeqAt.canLay_of_shaped se) ry
  exact ne_dataH r1 r2 sd se hu ⟨.bl _, H, I, rfl, q⟩
end
structure TopFn (K : PySem.W.Frag) (mg : Str → Option Value) (x : Str) (st : Stmt) : Prop where
  ex : ∃ (f : Addr) (fd : FuncData), Fun K x x st f fd ∧ mg x = some (.ref f)
theorem same_new {H : Hp} {p : Addr} (h : H p = none) (o : HO) : Same H (upd H p o) := fun b u q => by rw [upd_ne (ne_of_none q h)]; exact q
end L2
namespace L2
open PySem PySem.Spec PyProof.Rows
theorem bt_int : bootBuiltins "int" = some (.type "int") := by decide +kernel
theorem bt_bool : bootBuiltins "bool" = some (.type "bool") := by decide +kernel
theorem bt_tuple : bootBuiltins "tuple" = some (.type "tuple") := by decide +kernel
theorem bt_list : bootBuiltins "list" = some (.type "list") := by decide +kernel
theorem bt_str : bootBuiltins "str" = some (.type "str") := by decide +kernel
theorem bt_len : bootBuiltins "len" = some (.builtin "len") := by decide +kernel
theorem bt_abs : bootBuiltins "abs" = some (.builtin "abs") := by decide +kernel
theorem bt_all : bootBuiltins "all" = some (.builtin "all") := by decide +kernel
theorem bt_isinstance : bootBuiltins "isinstance" = some (.builtin "isinstance") := by decide +kernel
def bsub (t T : String) : Option Bool := if (Value.type t == Value.type T) = true then some true else if PySem.W.kitMeta T = true then (fastBuiltinMro t).map (·.contains (Value.type T)) else none
theorem kit_b {K : PySem.W.Frag} {t T : String} {b : Bool} (h : bsub t T = some b) : PySem.W.kitOne K (.type t) (.type T) = some b := h
theorem topFn_mk {K : PySem.W.Frag} {h : Heap} {mg : Str → Option Value} {x : Str} {st : Stmt} {f : Addr} {oc : Value} {od an : Option Addr} {sl : Array (Option Value)} {kV dc pm cd ct : Value} (X : K.In h) (G : h.Ns mainGlobals mg)
    (a : PySem.W.nsIn K mainGlobals x = some (some (.ref f))) (l : K.lookup f = some ⟨oc, od, .func (PySem.W.fnOf x x (defArgs st) (defBody st) (defScope st) .none kV dc pm an cd ct), sl⟩) (c : PySem.W.codeIn K cd x = true) (k : PySem.W.keepIn K (.ref f) = true) : TopFn K mg x st :=
  ⟨f, _, fun_mk l c k, PySem.W.mg_of X G a⟩
section
variable {X : Cx} {es : List Expr} {te : TE} {t : TA}
theorem pa_const {c : Const} {j : Nat} {p : Pos} (ha : PE X (.Constant c j p) te) (hr : PA X es t) : PA X (.Constant c j p :: es) (tCons te t) := pa_cons ha hr (by rfl)
theorem pa_name {x : Str} {p : Pos} (ha : PE X (.Name x p) te) (hr : PA X es t) : PA X (.Name x p :: es) (tCons te t) := pa_cons ha hr (by rfl)
theorem pa_list {xs : List Expr} {p : Pos} (ha : PE X (.List xs p) te) (hr : PA X es t) : PA X (.List xs p :: es) (tCons te t) := pa_cons ha hr (by rfl)
theorem pa_tuple {xs : List Expr} {k : Nat} {p : Pos} (ha : PE X (.Tuple xs k p) te) (hr : PA X es t) : PA X (.Tuple xs k p :: es) (tCons te t) := pa_cons ha hr (by rfl)
theorem pa_call {f : Expr} {as : List Expr} {kw : List Keyword} {p : Pos} (ha : PE X (.Call f as kw p) te) (hr : PA X es t) : PA X (.Call f as kw p :: es) (tCons te t) := pa_cons ha hr (by rfl)
theorem pa_bin {a : Expr} {o : Operator} {b : Expr} {p : Pos} (ha : PE X (.BinOp a o b p) te) (hr : PA X es t) : PA X (.BinOp a o b p :: es) (tCons te t) := pa_cons ha hr (by rfl)
theorem pa_un {o : UnaryOp} {a : Expr} {p : Pos} (ha : PE X (.UnaryOp o a p) te) (hr : PA X es t) : PA X (.UnaryOp o a p :: es) (tCons te t) := pa_cons ha hr (by rfl)
theorem pa_cmp {a : Expr} {os : List CmpOp} {bs : List Expr} {p : Pos} (ha : PE X (.Compare a os bs p) te) (hr : PA X es t) : PA X (.Compare a os bs p :: es) (tCons te t) := pa_cons ha hr (by rfl)
theorem pa_sub {a b : Expr} {p : Pos} (ha : PE X (.Subscript a b p) te) (hr : PA X es t) : PA X (.Subscript a b p :: es) (tCons te t) := pa_cons ha hr (by rfl)
end
end L2
namespace L2
open PySem PySem.Spec PyProof.Rows
theorem dict_mf (o : Obj) (f : Array Value → Array Value) : (o.mapFields f).dict = o.dict := by
  obtain ⟨c, d, dt, sl⟩ := o; cases dt <;> rfl
inductive Chn (h : Heap) : Value → Prop
  | none : Chn h .none
  | ref {b : Addr} {o : Obj} {vs : Array Value} {cx : Value} : h.get? b = some o → o.data = .fields vs → vs[2]? = some cx → Chn h cx → Chn h (.ref b)
theorem Chn.mono {h h' : Heap} (k : ∀ b o vs, h.get? b = some o → o.data = .fields vs → ∃ o' vs', h'.get? b = some o' ∧ o'.data = .fields vs' ∧ vs'[2]? = vs[2]?) {v : Value} (c : Chn h v) : Chn h' v := by
  induction c with
  | none => exact .none
  | ref e d t _ ih =>
    obtain ⟨o', vs', e', d', t'⟩ := k _ _ _ e d
    exact .ref e' d' (t'.trans t) ih
def Trc (base : Heap) (e : Addr) (c : Value) (d : Option Addr) (fl : Value) (h : Heap) : Prop :=
  ∃ (o oT : Obj) (vs ts : Array Value) (T : Addr), h.get? e = some o ∧ o.cls = c ∧ o.dict = d ∧ o.data = .fields vs ∧ vs[1]? = some (.ref T) ∧ base.get? T = none ∧ T ≠ e ∧ h.get? T = some oT ∧ oT.data = .fields ts ∧ ts[3]? = some fl ∧ ∃ cx, vs[2]? = some cx ∧ Chn h cx
def FlyD (base : Heap) (l : List Env) (e : Addr) (c : Value) (d : Option Addr) (fl : Value) (h : Heap) : Prop :=
  base.StaysIn h ∧ base.get? e = none ∧ h.FunFrames base l ∧ Trc base e c d fl h
theorem FlyD.pop {base h : Heap} {env : Env} {l : List Env} {e : Addr} {c : Value} {d : Option Addr} {fl : Value} (x : FlyD base (env :: l) e c d fl h) : FlyD base l e c d fl h := ⟨x.1, x.2.1, x.2.2.1.2.2, x.2.2.2⟩
section
variable {M : Model} {A : Around} {E : Value → Shared → Prop} {s : Shared} {base : Heap} {env : Env} {outer l : List Env} {L e : Addr} {c : Value} {d : Option Addr}
theorem note_new {o : Obj} {vs : Array Value} {head : Value} {hn : Bool} {Q : Unit → Shared → Prop} (hfr : A.frames = some (env :: outer)) (hf : env.frame = some L) (st : base.StaysIn s.heap) (ne : base.get? e = none)
    (fr : s.heap.FunFrames base (env :: outer)) (he : s.heap.get? e = some o) (hd : o.data = .fields vs) (hz : 1 < vs.size) (hcx : ∃ cx, vs[2]? = some cx ∧ Chn s.heap cx)
    (h : ∀ h', FlyD base (env :: outer) e o.cls o.dict (rawInt L) h' → s.heap.UpToSlots h' → Q () { s with heap := h' }) :
    wpAny M A (frameOf env >>= fun a => entryPlaceOf L hn >>= fun pl => EntryCells.newEntry head a .none (rawInt L) .none pl >>= fun b => setField (.ref e) 1 b) Q E s := by
  have eL : e ∉ (env :: outer).filterMap (·.frame) := fun m => by
    obtain ⟨_, u, hu, nf⟩ := fr.mem m
    rw [he] at hu; cases hu; exact nf vs hd
  refine wpAny_bind (wpAny_frameOf_fun hfr fr hf fun h1 so => wpAny_bind (wpAny_entryPlaceOf fun pl hp => ?_))
  have he1 : h1.get? e = some o := (so.2.1 e eL).trans he
  have Te : h1.objs.size ≠ e := Nat.ne_of_gt (Heap.lt_size he1)
  have st1 : base.StaysIn h1 := fun b u q => (so.2.1 b fun m => by rw [(fr.mem m).1] at q; cases q).trans (st b u q)
  have key : ∀ (oT : Obj) (ts : Array Value), oT.data = .fields ts → ts[3]? = some (rawInt L) → wpAny M A (setField (.ref e) 1 (.ref h1.objs.size)) Q E { s with heap := h1.push oT } := by
    intro oT ts dT t3
    have he2 := Heap.get?_push_of_some (h := h1) oT he1
    have hT2 : (h1.push oT).get? h1.objs.size = some oT := Heap.get?_push_size h1 (Obj.isFreed_of_fields dT)
    have oth : ∀ b u, b ≠ e → h1.get? b = some u → ((h1.push oT).update e (Obj.mapFields (·.setIfInBounds 1 (Value.ref h1.objs.size)))).get? b = some u := fun b u n q => by
      rw [Heap.get?_update_other _ _ (Ne.symm n)]; exact Heap.get?_push_of_some _ q
    have nrec : ∀ b u, s.heap.get? b = some u → (∀ xs, u.data ≠ .fields xs) → b ≠ e := fun b u q nf z => by
      subst z; rw [he] at q; cases q; exact nf vs hd
    refine wpAny_setField he2 hd hz (h _ ⟨fun b u q => oth b u (fun z => by rw [z, ne] at q; cases q) (st1 b u q), ne, fr.of_keeps fun b u q nf => ?_, _, oT, _, ts, h1.objs.size,
      Heap.get?_update_self _ he2 (Obj.isFreed_of_fields (Obj.data_mapFields hd _)), Obj.cls_mapFields _ _, dict_mf _ _, Obj.data_mapFields hd _, by simp [hz], st1.fresh, Te, ?_, dT, t3, ?_⟩ fun b u q nf => ?_)
    · obtain ⟨sl, z⟩ := so.2.2 b u q
      exact ⟨_, oth b _ (nrec b u q nf) z, rfl⟩
    · rw [Heap.get?_update_other _ _ (Ne.symm Te)]; exact hT2
    · obtain ⟨cx, c1, c2⟩ := hcx
      refine ⟨cx, by rw [Array.getElem?_setIfInBounds_ne (by decide)]; exact c1, c2.mono fun b u us q d => ?_⟩
      by_cases hb : b = e
      · subst hb
        rw [he] at q
        cases q
        rw [hd] at d
        cases d
        exact ⟨_, _, Heap.get?_update_self _ he2 (Obj.isFreed_of_fields (Obj.data_mapFields hd _)), Obj.data_mapFields hd _, Array.getElem?_setIfInBounds_ne (by decide)⟩
      · have nb : b ∉ (env :: outer).filterMap (·.frame) := fun m => by
          obtain ⟨_, u', hu, nf⟩ := fr.mem m
          rw [q] at hu; cases hu; exact nf us d
        exact ⟨u, us, oth b u hb ((so.2.1 b nb).trans q), d, rfl⟩
    · obtain ⟨sl, z⟩ := so.2.2 b u q
      exact ⟨sl, oth b _ (nrec b u q nf) z⟩
  unfold EntryCells.newEntry newFields; refine wpAny_bind (wpAny_newObj_type (key _ _ rfl ?_) (hp.sizeOk5 _ _ _ _ _))
  rcases hp with rfl | ⟨_, _, _, _, _, _, _, rfl⟩ <;> simp
theorem fl_none {fl : Value} {Q : Unit → Shared → Prop} (x : FlyD base l e c d fl s.heap) (h : ∀ h', FlyD base l e c d .none h' → s.heap.UpToSlots h' → Q () { s with heap := h' }) :
    wpAny M A (setFlight (.ref e) none) Q E s := by
  obtain ⟨st, ne, fr, o, oT, vs, ts, T, he, hc, hdd, hd, h1, nT, Te, hT, dT, h3, cx, c1, c2⟩ := x
  have z3 : 3 < ts.size := (Array.getElem?_eq_some_iff.mp h3).1
  have oth : ∀ b, b ≠ T → (s.heap.update T (Obj.mapFields (·.setIfInBounds 3 Value.none))).get? b = s.heap.get? b := fun b n => Heap.get?_update_other _ _ (Ne.symm n)
  have nrec : ∀ b u, s.heap.get? b = some u → (∀ xs, u.data ≠ .fields xs) → b ≠ T := fun b u q nf z => by
    subst z; rw [hT] at q; cases q; exact nf ts dT
  have kT : Chn (s.heap.update T (Obj.mapFields (·.setIfInBounds 3 Value.none))) cx := c2.mono fun b u us q d => by
    by_cases hb : b = T
    · subst hb
      rw [hT] at q
      cases q
      exact ⟨_, _, Heap.get?_update_self _ hT (Obj.isFreed_of_fields (Obj.data_mapFields d _)), Obj.data_mapFields d _, Array.getElem?_setIfInBounds_ne (by decide)⟩
    · exact ⟨u, us, (oth b hb).trans q, d, rfl⟩
  unfold setFlight; refine wpAny_bind (wpAny_field he hd h1 ?_)
  rw [if_pos (show (Value.ref T != Value.none) = true by simp)]
  refine wpAny_setField hT dT z3 (h _ ⟨fun b u q => (oth b fun z => by rw [z, nT] at q; cases q).trans (st b u q), ne, fr.of_keeps fun b u q nf => ⟨u, (oth b (nrec b u q nf)).trans q, rfl⟩,
    o, _, vs, _, T, (oth e (Ne.symm Te)).trans he, hc, hdd, hd, h1, nT, Te, Heap.get?_update_self _ hT (Obj.isFreed_of_fields (Obj.data_mapFields dT _)), Obj.data_mapFields dT _, by simp [z3], cx, c1, kT⟩ fun b u q nf => ⟨u.slots, (oth b (nrec b u q nf)).trans q⟩)
theorem note_next {Q : Unit → Shared → Prop} (hfr : A.frames = some (env :: outer)) (hf : env.frame = some L) (x : FlyD base (env :: outer) e c d .none s.heap)
    (h : ∀ h', FlyD base (env :: outer) e c d (rawInt L) h' → s.heap.UpToSlots h' → Q () { s with heap := h' }) : wpAny M A (noteFrame (.ref e) env) Q E s := by
  obtain ⟨st, ne, fr, o, oT, vs, ts, T, he, hc, hdd, hd, h1, nT, Te, hT, dT, h3, cx, c1, c2⟩ := x
  subst hc hdd
  have oth : ∀ b, b ≠ T → (s.heap.update T (Obj.mapFields (·.setIfInBounds 3 Value.none))).get? b = s.heap.get? b := fun b n => Heap.get?_update_other _ _ (Ne.symm n)
  have nrec : ∀ b u, s.heap.get? b = some u → (∀ xs, u.data ≠ .fields xs) → b ≠ T := fun b u q nf z => by
    subst z; rw [hT] at q; cases q; exact nf ts dT
  have kT : Chn (s.heap.update T (Obj.mapFields (·.setIfInBounds 3 Value.none))) cx := c2.mono fun b u us q d => by
    by_cases hb : b = T
    · subst hb
      rw [hT] at q
      cases q
      exact ⟨_, _, Heap.get?_update_self _ hT (Obj.isFreed_of_fields (Obj.data_mapFields d _)), Obj.data_mapFields d _, Array.getElem?_setIfInBounds_ne (by decide)⟩
    · exact ⟨u, us, (oth b hb).trans q, d, rfl⟩
  unfold noteFrame; simp only [hf]; refine wpAny_bind (wpAny_field he hd h1 ?_)
  rw [if_pos (show (Value.ref T != Value.none) = true by simp)]; refine wpAny_bind (wpAny_field hT dT h3 ?_)
  rw [if_neg (show ¬ ((Value.none == rawInt L) = true) by simp [rawInt])]; refine wpAny_bind (wpAny_setField hT dT (Array.getElem?_eq_some_iff.mp h3).1 ?_)
  refine note_new (s := { s with heap := s.heap.update T (Obj.mapFields (·.setIfInBounds 3 Value.none)) }) hfr hf (fun b u q => (oth b fun z => by rw [z, nT] at q; cases q).trans (st b u q)) ne (fr.of_keeps fun b u q nf => ⟨u, (oth b (nrec b u q nf)).trans q, rfl⟩)
    ((oth e (Ne.symm Te)).trans he) hd (Array.getElem?_eq_some_iff.mp h1).1 ⟨cx, c1, kT⟩ fun h' f up => h h' f fun b u q nf => up b u ((oth b (nrec b u q nf)).trans q) nf
theorem note_first {o : Obj} {vs : Array Value} {Q : Unit → Shared → Prop} (hfr : A.frames = some (env :: outer)) (hf : env.frame = some L) (st : base.StaysIn s.heap) (ne : base.get? e = none)
    (fr : s.heap.FunFrames base (env :: outer)) (he : s.heap.get? e = some o) (hd : o.data = .fields vs) (h1 : vs[1]? = some .none) (hcx : ∃ cx, vs[2]? = some cx ∧ Chn s.heap cx)
    (h : ∀ h', FlyD base (env :: outer) e o.cls o.dict (rawInt L) h' → s.heap.UpToSlots h' → Q () { s with heap := h' }) : wpAny M A (noteFrame (.ref e) env) Q E s := by
  unfold noteFrame; simp only [hf]; refine wpAny_bind (wpAny_field he hd h1 ?_)
  rw [if_neg (by decide)]
  exact note_new hfr hf st ne fr he hd (Array.getElem?_eq_some_iff.mp h1).1 hcx h
theorem leave_first {o : Obj} {vs : Array Value} {Q : Unit → Shared → Prop} (hfr : A.frames = some (env :: outer)) (hf : env.frame = some L) (st : base.StaysIn s.heap) (ne : base.get? e = none)
    (fr : s.heap.FunFrames base (env :: outer)) (he : s.heap.get? e = some o) (hd : o.data = .fields vs) (h1 : vs[1]? = some .none) (hcx : ∃ cx, vs[2]? = some cx ∧ Chn s.heap cx)
    (h : ∀ h', FlyD base outer e o.cls o.dict .none h' → s.heap.UpToSlots h' → Q () { s with heap := h' }) : wpAny M A (leaving env (.ref e)) Q E s :=
  wpAny_bind (note_first hfr hf st ne fr he hd h1 hcx fun h1 f1 u1 => fl_none (s := { s with heap := h1 }) f1 fun h2 f2 u2 => h h2 f2.pop (u1.trans u2))
theorem leave_next {Q : Unit → Shared → Prop} (hfr : A.frames = some (env :: outer)) (hf : env.frame = some L) (x : FlyD base (env :: outer) e c d .none s.heap)
    (h : ∀ h', FlyD base outer e c d .none h' → s.heap.UpToSlots h' → Q () { s with heap := h' }) : wpAny M A (leaving env (.ref e)) Q E s :=
  wpAny_bind (note_next hfr hf x fun h1 f1 u1 => fl_none (s := { s with heap := h1 }) f1 fun h2 f2 u2 => h h2 f2.pop (u1.trans u2))
end
end L2
namespace L2
open PySem PySem.Spec PyProof.Rows
theorem ObjOk.some_of {P : Program} {w : World} {H : Hp} {h : Heap} {a : Addr} {o : HO} (x : ObjOk P w H h a o) : ∃ u, h.get? a = some u := by
  cases o with
  | lst xs => obtain ⟨_, _, _, _, e⟩ := x; exact ⟨_, e⟩
  | tup xs => obtain ⟨_, _, _, p⟩ := x; obtain ⟨o, e, _⟩ := p; exact ⟨_, e⟩
  | dK kvs => obtain ⟨_, _, _, _, o, _, _, e, _⟩ := x; exact ⟨_, e⟩
  | dT kvs => obtain ⟨_, _, _, _, o, _, _, e, _⟩ := x; exact ⟨_, e⟩
  | set S n => obtain ⟨o, _, _, _, e, _⟩ := x; exact ⟨_, e⟩
  | ins C dx fs => obtain ⟨_, _, _, e, _⟩ := x; exact ⟨_, e⟩
  | own y => obtain ⟨_, e⟩ := x; exact ⟨_, e⟩
  | xd fs => obtain ⟨_, ⟨_, _, _, e, _⟩, _⟩ := x; exact ⟨_, e⟩
  | rng lo hi => obtain ⟨_, _, _, e⟩ := x; exact ⟨_, e⟩
  | frz ob u => obtain ⟨e, _⟩ := x; exact ⟨_, e⟩
  | tbl ps => exact ⟨_, (show h.get? a = some _ from x)⟩
  | met f y => exact ⟨_, (show h.get? a = some _ from x)⟩
  | ext φ => obtain ⟨_, ⟨_, e⟩, _⟩ := x; exact ⟨_, e⟩
theorem HOk.none_of {P : Program} {w : World} {H : Hp} {h : Heap} {a : Addr} (x : HOk P w H h) (e : h.get? a = none) : H a = none := by
  cases q : H a with
  | none => rfl
  | some o =>
    obtain ⟨u, z⟩ := (x a o q).some_of
    rw [e] at z
    cases z
def CX1 (P : Program) (w : World) : CXT := fun outer H s E e s' => ∃ (a C : Addr) (d : Option Addr) (H' : Hp) (B : Heap), e = .ref a ∧ s'.os = s.os ∧ AllBare s'.gens ∧
  (∀ h'' : Heap, B.StaysIn h'' → s'.heap.UpToSlots h'' → Un (frs outer) [] H H' s.heap h'' ∧ HOk P w H' h'') ∧ FlyD B outer a (.ref C) d .none s'.heap ∧ H' a = none ∧ s.heap.get? a = none ∧ E (.ref C) d H'
structure BodyCx (X : Cx) (E : XK) : Prop where
  stk : X.stack = X.env :: X.outer
  fr : X.env.frame = some X.env.locals
  ex : X.ex = []
  xe : X.xe = fun e s' => wpAny (model X.prog X.w) X.A (leaving X.env e) (fun _ s'' => CX1 X.prog X.w X.outer X.H₀ X.s₀ E e s'') (fun e' s'' => CX1 X.prog X.w X.outer X.H₀ X.s₀ E e' s'') s'
section
variable {X : Cx} {pins : List (Addr × Obj)} {σ : St} {H : Hp} {s : Shared}
theorem mem_stack {E : XK} (Bd : BodyCx X E) {b : Addr} : b ∈ frs X.stack ↔ b = X.env.locals ∨ b ∈ frs X.outer := by
  rw [Bd.stk]
  show b ∈ List.filterMap (·.frame) (X.env :: X.outer) ↔ _
  rw [List.filterMap_cons, Bd.fr]
  exact List.mem_cons
theorem clo_of {E : XK} (Bd : BodyCx X E) (I : Inv X pins σ H s) {h1 h2 : Heap} (k : ∀ b o, s.heap.get? b = some o → h1.get? b = some o) (up : h1.UpToSlots h2) (h'' : Heap)
    (st : (PySem.W.hideAll s.heap (frs X.stack)).StaysIn h'') (up2 : h2.UpToSlots h'') : Un (frs X.outer) [] X.H₀ H X.s₀.heap h'' ∧ HOk X.prog X.w H h'' := by
  have inB : ∀ b o, s.heap.get? b = some o → b ∉ frs X.stack → h''.get? b = some o := fun b o e n => st b o (PySem.W.hideAll_get _ e n)
  have sl : ∀ b o, s.heap.get? b = some o → b ∈ frs X.stack → ∃ sl, h''.get? b = some { o with slots := sl } := fun b o e m => by
    obtain ⟨_, o', ho', hnf⟩ := I.stack.mem m
    rw [e] at ho'
    cases ho'
    exact (up.trans up2) b o (k b o e) hnf
  have nx : ∀ b : Addr, b ∉ X.ex := fun b z => by rw [Bd.ex] at z; cases z
  have neL : ∀ b o, X.s₀.heap.get? b = some o → b ≠ X.env.locals := fun b o e => Nat.ne_of_lt (Nat.lt_of_lt_of_le (Heap.lt_size e) I.ok.above)
  have any : ∀ b o, s.heap.get? b = some o → ∃ o', h''.get? b = some o' := fun b o e => by
    by_cases m : b ∈ frs X.stack
    · obtain ⟨z, q⟩ := sl b o e m
      exact ⟨_, q⟩
    · exact ⟨_, inB b o e m⟩
  refine ⟨⟨fun b o e n hb _ => ?_, fun b o e n hb _ => ?_, fun b o e n _ => I.base.free b o e n (nx b), fun b o e _ => ?_, I.base.tups, I.base.frzs, I.base.tbls⟩, fun a o e => ?_⟩
  · exact inB b o (I.base.keep b o e n hb (nx b)) fun m => (mem_stack Bd).mp m |>.elim (neL b o e) hb
  · obtain ⟨z, q⟩ := I.base.slot b o e n hb (nx b)
    obtain ⟨z', q'⟩ := sl b _ q ((mem_stack Bd).mpr (.inr hb))
    exact ⟨z', q'⟩
  · obtain ⟨o', q⟩ := I.base.there b o e (nx b)
    exact any b o' q
  · refine (I.hok a o e).stay (fun b u hc q => inB b u q fun m => ?_) (fun _ q => q) fun _ _ q => q
    have z := I.stkFree b m
    rcases hc with rfl | hc
    · rw [z] at e; cases e
    · rw [z] at hc; cases hc
theorem inv_behind {H' : Hp} {h'' : Heap} {s' : Shared} (I : Inv X pins σ H s) (ho : s'.os = s.os) (hg : AllBare s'.gens) (u : Un (frs X.stack) [] H H' s.heap h'' ∧ HOk X.prog X.w H' h'') : Inv X pins σ H' { s' with heap := h'' } :=
  I.call' (s' := { s' with heap := h'' }) (ch := []) ho u.1 u.2 hg fun b z => nomatch z
theorem new0 (I : Inv X pins σ H s) (nx : ∀ b : Addr, b ∉ X.ex) {a : Addr} (e : s.heap.get? a = none) : X.s₀.heap.get? a = none := by
  cases q : X.s₀.heap.get? a with
  | none => rfl
  | some o =>
    obtain ⟨o', z⟩ := I.base.there a o q (nx a)
    rw [e] at z
    cases z
theorem passes1 {E : XK} (Bd : BodyCx X E) : Passes (CX1 X.prog X.w) X E := by
  intro pins σ H s e s' I h
  obtain ⟨a, C, t, H', B, rfl, os, bare, clo, fly, na, nw, q⟩ := h
  rw [Bd.xe]
  have hfr : X.A.frames = some (X.env :: X.outer) := by rw [← Bd.stk]; exact I.ok.frames
  have fly' : FlyD B (X.env :: X.outer) a (.ref C) t .none s'.heap := by rw [← Bd.stk]; exact fly
  refine leave_next hfr Bd.fr fly' fun h' f1 up => ?_
  have nx : ∀ b : Addr, b ∉ X.ex := fun b z => by rw [Bd.ex] at z; cases z
  have J0 : ∀ h'' : Heap, B.StaysIn h'' → h'.UpToSlots h'' → Inv X pins σ H' { s' with heap := h'' } := fun h'' st up2 => inv_behind I os bare (clo h'' st (up.trans up2))
  have os0 : s'.os = X.s₀.os := os.trans I.os
  refine ⟨a, C, t, H', B, rfl, os0, bare, fun h'' st up2 => ?_, f1, na, new0 I nx nw, q⟩
  have J := J0 h'' st up2
  have u := J.base
  rw [Bd.ex] at u
  exact ⟨u, J.hok⟩
end
theorem exc_obj {K : PySem.W.Frag} {h₀ : Heap} {C : Addr} {bmB : List Value} {newId : String} (X : K.In h₀) (q : PySem.W.excIn K C bmB newId = true) :
    ∃ bm N nm q bs hdct sn sub ab col dd k0 k1 k2 k3 k5 mN, h₀.get? C = some (excClassObj nm q C N bs bm hdct sn sub ab col dd k0 k1 k2 k3 k5 newId) ∧ h₀.Ns N mN ∧ mN "__init__" = none ∧ OwnTail h₀ bmB bm := by
  unfold PySem.W.excIn at q
  split at q
  · rename_i dd cd sl ho
    split at q
    · rename_i C' bm k0 k1 k2 k3 n k5 hm hs
      simp only [Bool.and_eq_true, beq_iff_eq, Bool.not_eq_true'] at q
      obtain ⟨⟨⟨⟨⟨rfl, rfl⟩, hdel⟩, ht⟩, hok⟩, hni⟩ := q
      obtain ⟨nm, bs, mro, ns, qn, hd, sn, sub, ab, col, del⟩ := cd
      dsimp only at hm hdel hok hni
      subst hm hdel
      have hsl : sl = #[k0, k1, k2, k3, some (.builtin n), k5] := by
        obtain ⟨l⟩ := sl
        simp only at hs
        rw [hs]
      subst hsl
      exact ⟨bm, ns, nm, qn, bs, hd, sn, sub, ab, col, dd, k0, k1, k2, k3, k5, _, X _ _ ho, .of_isNs (PySem.W.isNs_of_in X hok), PySem.W.nsMap_none_of_in X hok hni, PySem.W.tail_of_in X ht⟩
    · cases q
  · cases q
structure ExcCls (K : PySem.W.Frag) (mg : Str → Option Value) (x : Str) (C : Addr) : Prop where
  mg : mg x = some (.ref C)
  ob : PySem.W.excIn K C [.type "ValueError", .type "Exception", .type "BaseException", .type "object"] "ValueError.__new__" = true
section
variable {X : Cx} {x : Str} {C : Addr} {e₀ : Expr} {t : TA} {np cpos pos : Pos}
def tRaise (E : XK) (C : Addr) (t : TA) : TS := fun _ σ H => t σ H fun vs H1 => vs.length ≤ sizeLine ∧ E (.ref C) none H1
theorem ps_raise {E : XK} (Bd : BodyCx X E) (hc : X.calm = true) (O : ExcCls X.K X.mg x C) (ha : PA X [e₀] t) (hg : Gl X x := by rfl) (hdb : (x == ("__debug__" : Str)) = false := by decide)
    (he : starEach [e₀] X.env = [(false, eval e₀ X.env)] := by rfl) :
    PS X (.Raise (some (.Call (.Name x np) [e₀] [] cpos)) none pos) (tRaise E C t) := by
  intro pins s σ H D I h
  obtain ⟨bm, N, nm, qn, bs, hdct, sn, sub, ab, col, dd, k0, k1, k2, k3, k5, mN, hC, hN, hni, TL⟩ := exc_obj I.ok.mod.kin O.ob
  have hbase : bm.contains (.type "BaseException") = true := TL.hasType (X := "BaseException") (by decide +kernel)
  have hpl : (backTo cpos (starEach [e₀] X.env)).any (·.1) = false := by rw [he]; rfl
  refine wpAny_Raise_call_subT (nm := nm) (q := qn) (N := N) (bs := bs) (hdct := hdct) (sn := sn) (sub := sub) (ab := ab) (col := col) (dd := dd) (k0 := k0) (k1 := k1) (k2 := k2) (k3 := k3) (k5 := k5) F.excBase_ValueError hbase (I.ok.hd hc) hpl hni (ld_glob I hg O.mg ⟨rfl, ?_⟩ hdb)
  have h1 := ha cpos pins s σ H _ I h
  rw [he] at h1 ⊢
  refine Calls.evalArgs_plain (thn h1 fun us s2 ⟨vs, H2, I2, r, hl, q⟩ => ⟨rfl, by rw [← r.length]; exact hl, I2.bk _ _ hC, hN.keeps I2.bk, TL.keeps I2.bk, fun h' e hm => ?_⟩)
  rw [Bd.xe]
  have hfr : X.A.frames = some (X.env :: X.outer) := by rw [← Bd.stk]; exact I.ok.frames
  have hin : ∀ env ∈ X.stack, ∀ b, env.frame = some b → b ∈ frs X.stack := fun env he b hb => List.mem_filterMap.mpr ⟨env, he, hb⟩
  have ff : s2.heap.FunFrames (PySem.W.hideAll s2.heap (frs X.stack)) (X.env :: X.outer) := by
    have z := PySem.W.funFrames_hide I2.stack hin
    rw [← Bd.stk]
    exact z
  obtain ⟨t0, he0, _, _⟩ := hm.there
  have ne0 : (PySem.W.hideAll s2.heap (frs X.stack)).get? e = none := by
    cases q0 : (PySem.W.hideAll s2.heap (frs X.stack)).get? e with
    | none => rfl
    | some o => have z := PySem.W.of_hideAll _ q0; rw [hm.new] at z; cases z
  refine leave_first (s := { s2 with heap := h' }) hfr Bd.fr (fun b o q => hm.keeps b o (PySem.W.of_hideAll _ q)) ne0 (ff.of_keeps fun b o q _ => ⟨o, hm.keeps b o q, rfl⟩) he0 rfl rfl ⟨_, rfl, .none⟩ fun h3 fly up => ?_
  refine ⟨e, C, none, H2, _, rfl, ?_, I2.bare, fun h'' st up2 => clo_of Bd I2 hm.keeps up h'' st up2, fly, I2.hok.none_of hm.new, new0 I2 (fun b z => by rw [Bd.ex] at z; cases z) hm.new, q⟩
  exact I2.os
end
end L2
namespace L2
open PySem PySem.Spec PyProof.Rows
structure RoomB (c : Bool) (k : Nat) (A : Around) : Prop where
  hd : c = true → A.handled = none
  dp : A.depth + 3 * k + 5 < recursionLimit
  un : A.units + 16 * k + 200 < cLine
theorem RoomB.mono {c : Bool} {j k : Nat} {A : Around} (r : RoomB c k A) (h : j ≤ k) : RoomB c j A := ⟨r.hd, by have := r.dp; omega, by have := r.un; omega⟩
theorem RoomB.deeper {c : Bool} {k : Nat} {A : Around} (r : RoomB c (k + 1) A) (env : Env) : RoomB c k (A.deeper env) :=
  ⟨r.hd, by have := r.dp; show A.depth + 1 + 3 * k + 5 < _; omega, by have := r.un; show A.units + 3 + 16 * k + 200 < _; omega⟩
theorem RoomB.depth {c : Bool} {k : Nat} {A : Around} (r : RoomB c k A) : A.depth < recursionLimit := by have := r.dp; omega
theorem RoomB.units {c : Bool} {k : Nat} {A : Around} (r : RoomB c k A) : A.units + 64 < cLine := by have := r.un; omega
theorem Room.b {k : Nat} {A : Around} (r : Room k A) : RoomB true k A := ⟨fun _ => r.hd, r.dp, r.un⟩
structure FnB (P : Program) (w : World) (K : PySem.W.Frag) (mg : Str → Option Value) (base : Heap) (c : Bool) (k : Nat) (f : Addr) (fd : FuncData) (ps : List Str) (sp : Sp) : Prop where
  len : ∀ vs H Q E, sp vs H Q E → vs.length = ps.length
  run : ∀ (A : Around) (outer : List Env) (s : Shared) (H : Hp) (args : Args) (us : List Value) (vs : List V) (Q : VK) (E : XK), RoomB c k A → Env0 P w K mg base A outer s H → BindsTo s fd args (ps.zip us) → Vals vs us → sp vs H Q E →
    codeAny (model P w) A (.call (.ref f) args) (CR (CX1 P w) outer P w H s Q E) s
theorem FnB.ok {P : Program} {w : World} {K : PySem.W.Frag} {mg : Str → Option Value} {base : Heap} {k : Nat} {f : Addr} {fd : FuncData} {ps : List Str} {sp : Sp} (F : FnB P w K mg base true k f fd ps sp) : FnOk P w K mg base (CX1 P w) k f fd ps sp :=
  ⟨F.len, fun A outer s H args us vs Q E hr => F.run A outer s H args us vs Q E hr.b⟩
def cxB (c : Bool) (P : Program) (w : World) (K : PySem.W.Frag) (mg : Str → Option Value) (base : Heap) (N : List Str) (qual : Str) (scope : Scope) (f : Addr) (cd : Value) (A : Around) (outer : List Env) (s : Shared) (H : Hp) (E : XK) : Cx :=
  { cxOf (CX1 P w) P w K mg base N qual scope f cd A outer s H E with calm := c }
theorem bodyB {c : Bool} {P : Program} {w : World} {K : PySem.W.Frag} {mg : Str → Option Value} {base : Heap} {N : List Str} {qual : Str} {scope : Scope} {f : Addr} {cd : Value} {A : Around} {outer : List Env} {s : Shared} {H : Hp} {E : XK} :
    BodyCx (cxB c P w K mg base N qual scope f cd A outer s H E) E := ⟨rfl, rfl, rfl, rfl⟩
theorem inv_startB {c : Bool} {P : Program} {w : World} {K : PySem.W.Frag} {mg : Str → Option Value} {base : Heap} {N ps : List Str} {qual : Str} {scope : Scope} {f : Addr} {cd : Value} {A : Around} {outer : List Env} {s s1 : Shared} {H : Hp} {E : XK} {us : List Value} {vs : List V}
    (S : FnScope N ps scope) (hd : c = true → A.handled = none) (e0 : Env0 P w K mg base A outer s H) (hl : vs.length = ps.length) (r : Vals vs us)
    (x : InCallC s s.heap.objs.size (bindL (envOfC qual scope s.heap.objs.size f cd).kindOf (ps.zip us) fun _ => none) (cellsFrom (s.heap.objs.size + 1) scope.names []) (bindC (envOfC qual scope s.heap.objs.size f cd).kindOf (ps.zip us) fun _ => none) s1) :
    Inv (cxB c P w K mg base N qual scope f cd A outer s H E) [] (start N vs) H s1 := by
  have hpl : ps.length ≤ N.length := by have := congrArg List.length S.pre; rw [List.length_take] at this; omega
  obtain ⟨h1, tk, rfl, hk⟩ := x.done
  have noA : ∀ b : Addr, b ∉ (cxB c P w K mg base N qual scope f cd A outer s H E).ex := fun b z => absurd (show b ∈ ([] : List Addr) from z) (by simp)
  refine ⟨⟨e0.mod, S.kind, rfl, rfl, Nat.le_refl _, fun y z c h1 h2 => ?_, fun y hy => ?_, fun y c _ h => ?_, fun z => hd z, Around.frames_deeper e0.frames, .inr ⟨rfl, rfl⟩, fun b z => absurd z (noA b), e0.bs, e0.bsz, fun b _ _ => noA b, fun b z => absurd z (noA b), e0.funs, e0.frf⟩,
    rfl, e0.bare, Un.kept hk, ⟨_, x.toInCall.ns, fun i y v h1 h2 h3 => ?_⟩, fun y c h => ⟨_, x.cell y c h⟩, e0.hok.fresh (Nat.le_refl _), fun y c h => ?_, fun p hp => absurd (show p ∈ ([] : List (Addr × Obj)) from hp) (by simp), e0.hok.kept hk, ?_⟩
  · exact name_of_addr x.apart (PySem.mem_of_lookup h1) (PySem.mem_of_lookup h2)
  · have hy : scope.names.lookup y = some .cell ∨ scope.names.lookup y = some .free := hy
    rcases hy with hy | hy
    · exact cell_has hy
    · exact absurd rfl (S.nofree _ (PySem.mem_of_lookup hy))
  · exact Nat.le_of_lt (x.above y c (PySem.mem_of_lookup h))
  · have hi : i < vs.length := by
      unfold start at h2
      by_cases hi : i < vs.length
      · exact hi
      · rw [List.getElem?_append_right (by simpa using hi)] at h2
        rw [List.getElem?_replicate] at h2
        split at h2 <;> cases h2
    have ha : vs[i]? = some v := by
      unfold start at h2
      rw [List.getElem?_append_left (by simpa using hi), List.getElem?_map] at h2
      cases e : vs[i]? with
      | none => rw [e] at h2; cases h2
      | some a => rw [e] at h2; cases h2; rfl
    obtain ⟨u, hu, rv⟩ := r.get ha
    have hp : ps[i]? = some y := by
      rw [← S.pre, List.getElem?_take_of_lt (by omega)]; exact h1
    have ndP : ps.Nodup := by rw [← S.pre]; exact S.nd.sublist (List.take_sublist _ _)
    refine ⟨u, rv, ?_⟩
    rcases S.par y (List.mem_of_getElem? hp) with k | k
    · exact .inl ⟨k, bindL_get ndP hp hu k⟩
    · obtain ⟨c, e⟩ := cell_has (n := s.heap.objs.size + 1) k
      refine .inr ⟨.inl k, c, e, ?_⟩
      have q := x.cell y c e
      rw [bindC_get ndP hp hu (by show scope.names.lookup y ≠ _; rw [k]; decide)] at q
      exact q
  · exact e0.hok.fresh (Nat.le_of_lt (x.above y c (PySem.mem_of_lookup h)))
  · unfold start
    show _ = N.length
    rw [List.length_append, List.length_map, List.length_replicate]
    omega
theorem fnB_of {c : Bool} {P : Program} {w : World} {K : PySem.W.Frag} {mg : Str → Option Value} {base : Heap} {k : Nat} {f : Addr} {name qual : Str} {params : Arguments} {body : List Stmt} {scope : Scope} {dV kV doc pm cdv ct oc : Value} {an od : Option Addr}
    {osl : Array (Option Value)} {N ps : List Str} {sp : Sp} (lk : K.lookup f = some ⟨oc, od, .func (PySem.W.fnOf name qual params body scope dV kV doc pm an cdv ct), osl⟩) (hcd : PySem.W.codeIn K cdv qual = true) (S : FnScope N ps scope)
    (len : ∀ vs H Q E, sp vs H Q E → vs.length = ps.length)
    (hbody : ∀ (A : Around) (outer : List Env) (s : Shared) (H : Hp) (vs : List V) (Q : VK) (E : XK), RoomB c k (A.deeper (envOfC qual scope s.heap.objs.size f cdv)) → sp vs H Q E →
      ∃ t, PSs (cxB c P w K mg base N qual scope f cdv A outer s H E) body t ∧ t { nx := fun _ H' => Q .non H', rt := Q } (start N vs) H) :
    FnB P w K mg base c (k + 1) f (PySem.W.fnOf name qual params body scope dV kV doc pm an cdv ct) ps sp := by
  refine ⟨len, fun A outer s H args us vs Q E hr e0 hb r hsp => ?_⟩
  have hl := len _ _ _ _ hsp
  have KX : K.In s.heap := e0.mod.kin.keeps fun b o e => (e0.bs b o e).1
  have lim : s.heap.NoLimit := e0.mod.nolimit.keeps fun b o e => (e0.bs b o e).1
  have hkind : ∀ y ∈ ps.zip us, scope.names.lookup y.1 = some .local ∨ (scope.names.lookup y.1 = some .cell ∧ ((cellsFrom (s.heap.objs.size + 1) scope.names []).lookup y.1).isSome = true) := fun ⟨n, v⟩ hy => by
    rcases S.par n (List.of_mem_zip hy).1 with q | q
    · exact .inl q
    · exact .inr ⟨q, PySem.W.cellsFrom_some _ _ _ (.inl q)⟩
  refine codeAny_call_function hr.depth (KX _ _ lk) rfl S.co S.gen rfl (PySem.W.codeRec_of KX hcd) (hb _ _ _ _ ?_)
  refine wpAny_newFunctionEnv_cells S.kind hkind fun env he s1 x => ?_
  subst he
  refine ⟨lim.keeps x.toInCall.keep, codeAny_func ?_⟩
  obtain ⟨t, ht, hq⟩ := hbody A outer s H vs Q E (hr.deeper _) hsp
  have I : Inv (cxB c P w K mg base N qual scope f cdv A outer s H E) [] (start N vs) H s1 := inv_startB S hr.hd e0 hl r x
  refine wpAny_mono (ht [] s1 (start N vs) H _ I hq) (fun fl s' hs => ?_) fun e s' hs => hs
  have fin : ∀ {σ' : St} {H' : Hp} {v : V} {u : Value}, Inv (cxB c P w K mg base N qual scope f cdv A outer s H E) [] σ' H' s' → RelV v u → Q v H' → CE outer P w H s Q u s' :=
    fun {σ' H' v u} J rv q => ⟨v, H', J.os, J.bare, J.base, J.hok, rv, q⟩
  cases fl with
  | ret u =>
    obtain ⟨v, σ', H', J, rv, q⟩ := hs
    exact fin J rv q
  | next =>
    obtain ⟨σ', H', J, q⟩ := hs
    exact fin (v := V.non) (u := Value.none) J rfl q
  | brk =>
    obtain ⟨_, _, _, q⟩ := hs
    exact False.elim q
  | cont =>
    obtain ⟨_, _, _, q⟩ := hs
    exact False.elim q
structure CalB (P : Program) (w : World) (K : PySem.W.Frag) (mg : Str → Option Value) (base : Heap) (c : Bool) (k : Nat) (x : Str) (ps : List Str) (sp : Sp) : Prop where
  ex : ∃ (f : Addr) (fd : FuncData), FnB P w K mg base c k f fd ps sp ∧ mg x = some (.ref f) ∧ PySem.W.keepIn K (.ref f) = true ∧ Binds K fd ps []
theorem TopFn.calB {c : Bool} {P : Program} {w : World} {K : PySem.W.Frag} {mg : Str → Option Value} {base : Heap} {x : Str} {st : Stmt} {N ps : List Str} {k : Nat} {sp : Sp} (T : TopFn K mg x st) (S : FnScope N ps (defScope st))
    (hb : ∀ (kV doc pm : Value) (an : Option Addr) (cdv ct : Value) (us : List Value), us.length = ps.length → bindArgs (PySem.W.fnOf x x (defArgs st) (defBody st) (defScope st) .none kV doc pm an cdv ct) ⟨us, []⟩ = pure (ps.zip us))
    (len : ∀ vs H Q E, sp vs H Q E → vs.length = ps.length)
    (hbody : ∀ (f : Addr) (cdv : Value) (A : Around) (outer : List Env) (s : Shared) (H : Hp) (vs : List V) (Q : VK) (E : XK), RoomB c k (A.deeper (envOfC x (defScope st) s.heap.objs.size f cdv)) → sp vs H Q E →
      ∃ t, PSs (cxB c P w K mg base N x (defScope st) f cdv A outer s H E) (defBody st) t ∧ t { nx := fun _ H' => Q .non H', rt := Q } (start N vs) H) : CalB P w K mg base c (k + 1) x ps sp := by
  obtain ⟨f, fd, F, hm⟩ := T.ex
  obtain ⟨oc, od, kV, doc, pm, an, cdv, ct, osl, rfl, l, cd⟩ := id F.ex
  exact ⟨f, _, fnB_of l cd S len (hbody f cdv), hm, F.kp, F.binds hb⟩
theorem pass01 {P : Program} {w : World} {X : Cx} : Passes (CX1 P w) X E0 := fun _ _ _ _ _ _ _ h => by
  obtain ⟨_, _, _, _, _, _, _, _, _, _, _, _, q⟩ := h
  exact q.elim
section
variable {X : Cx} {c : Bool} {k : Nat} {ps : List Str} {sp : Sp} {x : Str} {p pos : Pos} {e : Expr} {es : List Expr} {t : TA} {E : XK}
theorem run_fnB {pins : List (Addr × Obj)} {σ : St} {H : Hp} {s : Shared} {Q : VK} {us : List Value} {vs : List V} {f : Addr} {fd : FuncData} {E' : Value → Shared → Prop} (F : FnB X.prog X.w X.K X.mg X.base c k f fd ps sp) (hr : RoomB c k X.A) (hb : Binds X.K fd ps [])
    (I : Inv X pins σ H s) (r : Vals vs us) (h : sp (vs ++ []) H Q E) (hx : ∀ e s', CX1 X.prog X.w X.stack H s E e s' → E' e s') : wpAny (model X.prog X.w) X.A (call (.ref f) us) (EP X pins σ Q) E' s := by
  have r2 : Vals (vs ++ []) (us ++ []) := r.append .nil
  have hl : (us ++ []).length = ps.length := by rw [← r2.length]; exact F.len _ _ _ _ h
  refine wpAny_call (codeAny_mono (F.run X.A X.stack s H ⟨us, []⟩ (us ++ []) (vs ++ []) Q E hr I.env0 (hb s us I.kIn hl) r2 h) fun r s' hq => ?_)
  cases r with
  | error e => exact hx e s' hq
  | ok fl =>
    cases fl with
    | ret u => exact I.after hq
    | next => exact False.elim hq
    | brk => exact False.elim hq
    | cont => exact False.elim hq
theorem pe_cB (C : CalB X.prog X.w X.K X.mg X.base c k x ps sp) (hr : RoomB c k X.A) (hx : Passes (CX1 X.prog X.w) X E) (ha : PA X (e :: es) t) (hg : Gl X x := by rfl) (hdb : (x == ("__debug__" : Str)) = false := by decide)
    (he : starEach (e :: es) X.env = (false, eval e X.env) :: starEach es X.env := by rfl) (hpl : (backTo pos (starEach es X.env)).any (·.1) = false := by rfl) :
    PE X (.Call (.Name x p) (e :: es) [] pos) (tCall sp [] E t) := by
  obtain ⟨f, fd, F, hm, hk, hb⟩ := C.ex
  intro pins s σ H Q I h
  refine wpAny_Call_Name_kw (ld_glob I hg hm ?_ hdb)
  refine PySem.W.callWith_K (h₀ := X.base) I.ok.mod.kin hk (thn (ha pos pins s σ H _ I h) fun us s1 ⟨vs, H1, I1, r, q⟩ => ⟨I1.kIn, ?_⟩) he hpl
  exact run_fnB F hr hb I1 r q fun e s' h => hx pins σ H1 s1 e s' I1 h
end
end L2
namespace L2
open PySem PySem.Spec PyProof.Rows
end L2
namespace L2
open PySem PySem.Spec PySem.Calls PyProof.Rows PySem.W Builtin Builtin.ObjectAttr Builtin.Getset_descriptor
end L2
namespace Fr
theorem absE (i : Int) : (if i < 0 then -i else i) = (i.natAbs : Int) := by omega
theorem gcd_turn (m n : Nat) : Nat.gcd n (m % n) = Nat.gcd m n := by
  rw [Nat.gcd_comm n (m % n), ← Nat.gcd_rec n m, Nat.gcd_comm]
def gcd (a b : Int) : Int := ((Nat.gcd a.natAbs b.natAbs : Nat) : Int)
theorem gcd_nn (a b : Int) : 0 ≤ gcd a b := Int.natCast_nonneg _
theorem gcd_pos {a b : Int} (h : b ≠ 0) : 0 < gcd a b := by
  unfold gcd
  have : 0 < Nat.gcd a.natAbs b.natAbs := Nat.gcd_pos_of_pos_right _ (by omega)
  omega
theorem gcd_le {a b : Int} (h : b ≠ 0) : gcd a b ≤ (b.natAbs : Int) := by
  unfold gcd
  have : Nat.gcd a.natAbs b.natAbs ≤ b.natAbs := Nat.gcd_le_right _ (by omega)
  omega
theorem gcd_dvd_l (a b : Int) : gcd a b ∣ a := by
  unfold gcd
  exact Int.ofNat_dvd_left.mpr (Nat.gcd_dvd_left _ _)
theorem gcd_dvd_r (a b : Int) : gcd a b ∣ b := by
  unfold gcd
  exact Int.ofNat_dvd_left.mpr (Nat.gcd_dvd_right _ _)
def sg (t b : Int) : Int := if b < 0 then 0 - gcd t b else gcd t b
def lt (t b : Int) : Int := t.fdiv (sg t b)
def lb (t b : Int) : Int := b.fdiv (sg t b)
theorem sg_ne {t b : Int} (h : b ≠ 0) : sg t b ≠ 0 := by
  unfold sg
  have := gcd_pos (a := t) h
  split <;> omega
theorem sg_abs {t b : Int} : (sg t b).natAbs = (gcd t b).natAbs := by
  unfold sg
  split <;> omega
theorem sg_dvd_t (t b : Int) : sg t b ∣ t := by
  unfold sg
  split
  · rw [Int.zero_sub]; exact Int.neg_dvd.mpr (gcd_dvd_l t b)
  · exact gcd_dvd_l t b
theorem sg_dvd_b (t b : Int) : sg t b ∣ b := by
  unfold sg
  split
  · rw [Int.zero_sub]; exact Int.neg_dvd.mpr (gcd_dvd_r t b)
  · exact gcd_dvd_r t b
theorem fdiv_mul {a g : Int} (h : g ∣ a) : a.fdiv g * g = a := by
  rw [Int.fdiv_eq_ediv_of_dvd h]
  exact Int.ediv_mul_cancel h
theorem lt_mul (t b : Int) : lt t b * sg t b = t := fdiv_mul (sg_dvd_t t b)
theorem lb_mul (t b : Int) : lb t b * sg t b = b := fdiv_mul (sg_dvd_b t b)
theorem lb_pos {t b : Int} (h : b ≠ 0) : 0 < lb t b := by
  have e := lb_mul t b
  have g := gcd_pos (a := t) h
  have hs : sg t b = if b < 0 then 0 - gcd t b else gcd t b := rfl
  rcases Int.lt_trichotomy (lb t b) 0 with z | z | z
  · exfalso
    by_cases hb : b < 0
    · rw [if_pos hb] at hs
      have : 0 < lb t b * sg t b := by
        rw [hs]
        exact Int.mul_pos_of_neg_of_neg z (by omega)
      omega
    · rw [if_neg hb] at hs
      have : lb t b * sg t b < 0 := by
        rw [hs]
        exact Int.mul_neg_of_neg_of_pos z g
      omega
  · rw [z] at e; omega
  · exact z
theorem low_same {t b : Int} (h : 0 < b) : (lt t b = t ∧ lb t b = b) ↔ gcd t b = 1 := by
  have hs : sg t b = gcd t b := if_neg (by omega)
  have g := gcd_pos (a := t) (b := b) (by omega)
  have e := lb_mul t b
  constructor
  · rintro ⟨-, h2⟩
    rw [h2, hs] at e
    have : b * gcd t b = b * 1 := by omega
    exact Int.eq_of_mul_eq_mul_left (by omega) this
  · intro h1
    unfold lt lb
    rw [hs, h1, Int.fdiv_one, Int.fdiv_one]
    exact ⟨rfl, rfl⟩
theorem log2_small {n k : Nat} (h : n < 2 ^ k) (hk : 0 < k) : n.log2 < k := by
  by_cases z : n = 0
  · subst z; simpa using hk
  · exact (Nat.log2_lt z).mpr h
theorem lb_abs {t b : Int} (h : b ≠ 0) : (lb t b).natAbs ≤ b.natAbs := by
  have e := lb_mul t b
  have g := sg_ne (t := t) h
  have h1 : (lb t b).natAbs * (sg t b).natAbs = b.natAbs := by rw [← Int.natAbs_mul, e]
  have h2 : 1 ≤ (sg t b).natAbs := by omega
  calc (lb t b).natAbs = (lb t b).natAbs * 1 := (Nat.mul_one _).symm
    _ ≤ (lb t b).natAbs * (sg t b).natAbs := Nat.mul_le_mul_left _ h2
    _ = b.natAbs := h1
end Fr
namespace Fr
theorem gcd_comm' (t b : Int) : ((b.gcd t : Nat) : Int) = gcd t b := by
  unfold gcd Int.gcd
  rw [Nat.gcd_comm]
theorem lt_num {t b : Int} (h : b ≠ 0) : lt t b = (Rat.divInt t b).num := by
  have g0 := gcd_pos (a := t) h
  rw [Rat.num_divInt, gcd_comm']
  have e := lt_mul t b
  have d : gcd t b ∣ b.sign * t := Int.dvd_mul_of_dvd_right (gcd_dvd_l t b)
  refine (Int.ediv_eq_of_eq_mul_left (by omega) ?_).symm
  have hs : sg t b = b.sign * gcd t b := by
    unfold sg
    rcases Int.lt_trichotomy b 0 with z | z | z
    · rw [if_pos z, Int.sign_eq_neg_one_of_neg z]; omega
    · exact absurd z h
    · rw [if_neg (by omega), Int.sign_eq_one_of_pos z]; omega
  have h2 : b.sign * b.sign = 1 := by
    rcases Int.lt_trichotomy b 0 with z | z | z
    · rw [Int.sign_eq_neg_one_of_neg z]; rfl
    · exact absurd z h
    · rw [Int.sign_eq_one_of_pos z]; rfl
  calc b.sign * t = b.sign * (lt t b * sg t b) := by rw [e]
    _ = (b.sign * b.sign) * (lt t b * gcd t b) := by rw [hs]; grind
    _ = lt t b * gcd t b := by rw [h2]; omega
theorem lb_den {t b : Int} (h : b ≠ 0) : lb t b = ((Rat.divInt t b).den : Int) := by
  have e1 := lt_mul t b
  have e2 := lb_mul t b
  have s0 := sg_ne (t := t) h
  have n := lt_num (t := t) h
  have c : (Rat.divInt t b).num * b = t * ((Rat.divInt t b).den : Int) := by
    have z : Rat.divInt (Rat.divInt t b).num ((Rat.divInt t b).den : Int) = Rat.divInt t b := Rat.num_divInt_den _
    have d0 : (((Rat.divInt t b).den : Nat) : Int) ≠ 0 := by
      have := (Rat.divInt t b).den_nz
      omega
    exact (Rat.divInt_eq_divInt_iff d0 h).mp z
  by_cases t0 : t = 0
  · subst t0
    have : Rat.divInt 0 b = 0 := Rat.zero_divInt b
    rw [this]
    have g : gcd 0 b = (b.natAbs : Int) := by unfold gcd; simp
    have bp := lb_pos (t := 0) h
    have a1 : (lb 0 b).natAbs * (sg 0 b).natAbs = b.natAbs := by rw [← Int.natAbs_mul, e2]
    rw [sg_abs, g] at a1
    have b0 : 0 < b.natAbs := by omega
    have a2 : (lb 0 b).natAbs = 1 := by
      have : (lb 0 b).natAbs * b.natAbs = 1 * b.natAbs := by simpa using a1
      exact Nat.eq_of_mul_eq_mul_right b0 this
    show lb 0 b = 1
    omega
  · rw [← n] at c
    have h1 : t * lb t b = t * ((Rat.divInt t b).den : Int) := by
      rw [← c]
      calc t * lb t b = (lt t b * sg t b) * lb t b := by rw [e1]
        _ = lt t b * (lb t b * sg t b) := by grind
        _ = lt t b * b := by rw [e2]
    exact Int.eq_of_mul_eq_mul_left t0 h1
theorem den_pos (q : Rat) : 0 < (q.den : Int) := by
  have := q.den_pos
  omega
theorem divInt_rat (q : Rat) : Rat.divInt q.num (q.den : Int) = q := Rat.num_divInt_den q
theorem den_ne (q : Rat) : (q.den : Int) ≠ 0 := by have := den_pos q; omega
theorem sum_rat (p q : Rat) : Rat.divInt (p.num * q.den + q.num * p.den) (p.den * q.den) = p + q := by
  rw [← Rat.divInt_add_divInt _ _ (den_ne p) (den_ne q), divInt_rat, divInt_rat]
theorem less_rat (p q : Rat) : Rat.divInt (p.num * q.den - q.num * p.den) (p.den * q.den) = p - q := by
  rw [← Rat.divInt_sub_divInt _ _ (den_ne p) (den_ne q), divInt_rat, divInt_rat]
theorem prod_rat (p q : Rat) : Rat.divInt (p.num * q.num) (p.den * q.den) = p * q := by
  rw [← Rat.divInt_mul_divInt, divInt_rat, divInt_rat]
theorem quot_rat (p q : Rat) : Rat.divInt (p.num * q.den) (p.den * q.num) = p / q := by
  rw [Rat.div_def, ← Rat.divInt_mul_divInt, divInt_rat]
  congr 1
  have := Rat.inv_divInt q.num q.den
  rw [divInt_rat] at this
  exact this.symm
theorem lt_rat (p q : Rat) : p.num * q.den < q.num * p.den ↔ p < q := (Rat.lt_iff p q).symm
theorem num_zero (q : Rat) : q.num = 0 ↔ q = 0 := Rat.num_eq_zero
end Fr
namespace Fr
theorem lt_abs (t b : Int) (h : b ≠ 0) : (lt t b).natAbs ≤ t.natAbs := by
  have e := lt_mul t b
  have g := sg_ne (t := t) h
  have h1 : (lt t b).natAbs * (sg t b).natAbs = t.natAbs := by rw [← Int.natAbs_mul, e]
  have h2 : 1 ≤ (sg t b).natAbs := by omega
  calc (lt t b).natAbs = (lt t b).natAbs * 1 := (Nat.mul_one _).symm
    _ ≤ (lt t b).natAbs * (sg t b).natAbs := Nat.mul_le_mul_left _ h2
    _ = t.natAbs := h1
end Fr
namespace L2
open PySem PySem.Spec PyProof.Rows
theorem TopFn.calN {c : Bool} {P : Program} {w : World} {K : PySem.W.Frag} {mg : Str → Option Value} {base : Heap} {x : Str} {st : Stmt} {N ps : List Str} {k : Nat} {sp : Sp} (T : TopFn K mg x st) (S : FnScope N ps (defScope st))
    (hb : ∀ (kV doc pm : Value) (an : Option Addr) (cdv ct : Value) (us : List Value), us.length = ps.length → bindArgs (PySem.W.fnOf x x (defArgs st) (defBody st) (defScope st) .none kV doc pm an cdv ct) ⟨us, []⟩ = pure (ps.zip us))
    (len : ∀ vs H Q E, sp vs H Q E → vs.length = ps.length)
    (hbody : ∀ (f : Addr) (cdv : Value) (A : Around) (outer : List Env) (s : Shared) (H : Hp) (vs : List V) (Q : VK) (E : XK), RoomB c k (A.deeper (envOfC x (defScope st) s.heap.objs.size f cdv)) → sp vs H Q E →
      ∃ t, PSs (cxB c P w K mg base N x (defScope st) f cdv A outer s H E).nox (defBody st) t ∧ t { nx := fun _ H' => Q .non H', rt := Q } (start N vs) H) : CalB P w K mg base c (k + 1) x ps sp :=
  T.calB S hb len fun f cdv A outer s H vs Q E hr h => by
    obtain ⟨t, h1, h2⟩ := hbody f cdv A outer s H vs Q E hr h
    exact ⟨t, h1.nox, h2⟩
theorem Fun.okB {c : Bool} {P : Program} {w : World} {K : PySem.W.Frag} {mg : Str → Option Value} {base : Heap} {x : Str} {st : Stmt} {f : Addr} {fd : FuncData} {N ps : List Str} {k : Nat} {sp : Sp} (F : Fun K x x st f fd) (S : FnScope N ps (defScope st))
    (len : ∀ vs H Q E, sp vs H Q E → vs.length = ps.length)
    (hbody : ∀ (cdv : Value) (A : Around) (outer : List Env) (s : Shared) (H : Hp) (vs : List V) (Q : VK) (E : XK), RoomB c k (A.deeper (envOfC x (defScope st) s.heap.objs.size f cdv)) → sp vs H Q E →
      ∃ t, PSs (cxB c P w K mg base N x (defScope st) f cdv A outer s H E).nox (defBody st) t ∧ t { nx := fun _ H' => Q .non H', rt := Q } (start N vs) H) : FnB P w K mg base c (k + 1) f fd ps sp := by
  obtain ⟨oc, od, kV, doc, pm, an, cdv, ct, osl, rfl, l, cd⟩ := id F.ex
  exact fnB_of l cd S len fun A outer s H vs Q E hr h => by
    obtain ⟨t, h1, h2⟩ := hbody cdv A outer s H vs Q E hr h
    exact ⟨t, h1.nox, h2⟩
end L2
namespace Lib
open PySem L2
def lim : Nat := 2 ^ 9000
theorem lim_log {n : Nat} (h : n < lim) : n.log2 < 9000 := Fr.log2_small h (by decide)
theorem lim_mul {n : Nat} (h : n < lim) : n < 2 ^ 10000 := Nat.lt_trans h (by unfold lim; decide +kernel)
def spDiv : Sp := fun vs H Q _ => ∃ a b : Int, vs = [.int a, .int b] ∧ Q (.int (Fr.gcd a b)) H
def spLaw (K : PySem.W.Frag) : Sp := fun vs H Q _ => ∃ (a : Addr) (ns : List Int), vs = [.ref a] ∧ SqL K H a (ns.map V.int) ∧ ns.length ≤ 63 ∧ ∀ H', Q (.bl true) H'
theorem decI (i j : Int) : decide (V.int i = V.int j) = decide (i = j) := by
  by_cases h : i = j
  · subst h; simp
  · have : ¬ V.int i = V.int j := fun z => h (V.int.inj z)
    rw [decide_eq_false h, decide_eq_false this]
theorem atI_in {xs : List V} {r : Int} (h0 : 0 ≤ r) (h1 : r < (xs.length : Int)) : ∃ v, atI xs r = some v ∧ v ∈ xs := by
  have hj : r.toNat < xs.length := by omega
  have e : ((r.toNat : Nat) : Int) = r := by omega
  have q : atI xs ((r.toNat : Nat) : Int) = some xs[r.toNat] := atI_nat (List.getElem?_eq_getElem hj)
  rw [e] at q
  exact ⟨_, q, List.getElem_mem hj⟩
theorem eqv_pair (a b c d : Int) : PyData.eqv (.tuple [.int a, .int b]) (.tuple [.int c, .int d]) = (decide (a = c) && decide (b = d)) := by
  simp only [PyData.eqv, PyData.eqvAll, Bool.and_true]
  by_cases h1 : a = c <;> by_cases h2 : b = d <;> simp [h1, h2]
end Lib
namespace Lib
open PySem L2
abbrev frO (q : Rat) : HO := .tup [.int q.num, .int (q.den : Int)]
def lim2 : Nat := 2 ^ 4000
theorem lim2_40 : (10 : Nat) ^ 40 < lim2 := by unfold lim2; decide +kernel
theorem lim2_lim : lim2 < lim := by unfold lim lim2; decide +kernel
theorem lim2_sq : lim2 * lim2 + lim2 * lim2 < lim := by unfold lim lim2; decide +kernel
structure Sm (q : Rat) : Prop where
  n : q.num.natAbs < lim2
  d : q.den < lim2
theorem Sm.neg {q : Rat} (h : Sm q) : Sm (-q) := ⟨by rw [Rat.neg_num, Int.natAbs_neg]; exact h.n, by rw [Rat.neg_den]; exact h.d⟩
theorem nat_mul_lt {a b : Nat} (ha : a < lim2) (hb : b < lim2) : a * b < lim2 * lim2 := Nat.mul_lt_mul'' ha hb
theorem mul_lim {x y : Int} (hx : x.natAbs < lim2) (hy : y.natAbs < lim2) : (x * y).natAbs < lim := by
  rw [Int.natAbs_mul]
  have := nat_mul_lt hx hy
  have := lim2_sq
  omega
theorem mulW {x y : Int} (hx : x.natAbs < lim2) (hy : y.natAbs < lim2) : CMulW x y := ⟨lim_mul (Nat.lt_trans hx lim2_lim), lim_mul (Nat.lt_trans hy lim2_lim)⟩
theorem Sm.dn {q : Rat} (h : Sm q) : ((q.den : Int)).natAbs < lim2 := by rw [Int.natAbs_natCast]; exact h.d
theorem den0 (q : Rat) : ((q.den : Nat) : Int) ≠ 0 := by have := q.den_nz; omega
theorem denp (q : Rat) : (0 : Int) < ((q.den : Nat) : Int) := by have := q.den_nz; omega
theorem den_mul0 (p q : Rat) : ((p.den : Int)) * (q.den : Int) ≠ 0 := Int.mul_ne_zero (den0 p) (den0 q)
theorem frO_of {t b : Int} (h : b ≠ 0) : (HO.tup [.int (Fr.lt t b), .int (Fr.lb t b)]) = frO (Rat.divInt t b) := by
  rw [Fr.lt_num h, Fr.lb_den h]
theorem frO_gcd (q : Rat) : Fr.gcd q.num (q.den : Int) = 1 := by
  unfold Fr.gcd
  have := q.reduced
  unfold Nat.Coprime at this
  rw [Int.natAbs_natCast, this]
  rfl
theorem eqv_fr (p q : Rat) : PyData.eqv (.tuple [.int p.num, .int (p.den : Int)]) (.tuple [.int q.num, .int (q.den : Int)]) = decide (p = q) := by
  rw [eqv_pair]
  by_cases h : p = q
  · subst h; simp
  · rw [decide_eq_false h]
    by_cases h1 : p.num = q.num
    · have h2 : ¬ ((p.den : Int) = (q.den : Int)) := fun z => h (Rat.ext h1 (Int.ofNat.inj z))
      simp [h2]
    · simp [h1]
end Lib
namespace Lib
open PySem L2
end Lib
namespace L2
open PySem PySem.Spec PyProof.Rows PySem.Builtin PySem.Builtin.Str
section
variable {X : Cx}
def rSlS : V → Option Int → Option Int → Hp → VK → Prop := fun x lo hi H Q => ∃ z, x = .str z ∧ z.length ≤ sizeLine ∧ Q (.str (Txt.slice z lo hi)) H
theorem sl_str : SlR X rSlS := by
  intro pins s σ H x v vl vu lo hi sl Q I rx hs pl pu h
  obtain ⟨z, rfl, hz, q⟩ := h
  obtain ⟨t, rfl⟩ := rx
  refine ⟨"str", _, F.slot_str_getitem.lookup, typeIs_str _ _ _, ?_⟩
  obtain ⟨o, ho, hc, hd⟩ := hs
  have fin : ∀ t' k, EP X pins σ Q (.str (Txt.slice z lo hi) t') { s with toks := k } := fun t' k => ⟨.str _, H, I.tok _, ⟨t', rfl⟩, q⟩
  have hz' := Nat.le_trans (Txt.slice_le z lo hi) hz
  cases pl with
  | none =>
    cases pu with
    | none => exact wpAny_getItem_str_slice (l := none) (u := none) (st := none) ⟨o, ho, hc, hd⟩ rfl (post_val_or_str ⟨hz', fin⟩)
    | int j tj => exact wpAny_getItem_str_slice (l := none) (u := some (j, tj)) (st := none) ⟨o, ho, hc, hd⟩ rfl (post_val_or_str ⟨hz', fin⟩)
  | int i ti =>
    cases pu with
    | none => exact wpAny_getItem_str_slice (l := some (i, ti)) (u := none) (st := none) ⟨o, ho, hc, hd⟩ rfl (post_val_or_str ⟨hz', fin⟩)
    | int j tj => exact wpAny_getItem_str_slice (l := some (i, ti)) (u := some (j, tj)) (st := none) ⟨o, ho, hc, hd⟩ rfl (post_val_or_str ⟨hz', fin⟩)
variable {a : Expr} {ta : TE} {es : List Expr} {tr : Str → St → Hp → VK → Prop} {p pos : Pos}
theorem call_all (hc : X.calm = true) : CallR X (.builtin "all") (fun xs H Q => ∃ (p : Addr) (bs : List Bool), xs = [.ref p] ∧ SqL X.K H p (bs.map V.bl) ∧ Q (.bl (bs.all id)) H) := by
  intro pins s σ H xs us Q I r h
  obtain ⟨p, bs, rfl, hp, q⟩ := h
  obtain ⟨u, rfl, ru⟩ := vals1 r
  cases ru
  obtain ⟨its, rv, pl, hz⟩ := I.list hp
  have hlen : its.toArray.size = bs.length := by
    have := rv.length
    rw [List.length_map] at this
    rw [List.size_toArray]; exact this.symm
  have hlt : p < s.heap.objs.size := by
    obtain ⟨o, e, _⟩ := pl.isList
    exact Heap.lt_size e
  have hh : X.A.in1.handled = none := I.ok.hd hc
  refine call_all_walk (wpAny_pyIter_list pl.isList ⟨s.heap.objs.size, _, _, _, _, _, fun i => bs.getD i false, rfl, Walks.list hh s.heap.objs.size p (Nat.ne_of_lt hlt) its.toArray, ⟨⟨_, Heap.get?_push_size _ rfl, rfl, rfl⟩, pl.isList.push _⟩, ?_, fun h' tk k => ?_⟩)
  · intro i v s1 Q1 E1 hP hQ
    have hg : its[i]? = some v := by simpa using hP
    have hb : bs[i]? = some (bs.getD i false) ∧ RelV (.bl (bs.getD i false)) v := by
      have hi : i < bs.length := by
        have := (List.getElem?_eq_some_iff.mp hg).1
        rw [← hlen, List.size_toArray]; exact this
      have e1 : (bs.map V.bl)[i]? = some (.bl (bs.getD i false)) := by
        rw [List.getElem?_map, List.getD_eq_getElem?_getD, List.getElem?_eq_getElem hi]; rfl
      obtain ⟨u, hu, ru⟩ := rv.get e1
      rw [hg] at hu
      cases hu
      refine ⟨?_, ru⟩
      rw [List.getD_eq_getElem?_getD, List.getElem?_eq_getElem hi]; rfl
    obtain ⟨_, ru⟩ := hb
    cases ru
    exact wpAny_truthy_bool hQ
  · have e : (List.range its.toArray.size).all (fun i => bs.getD i false) = bs.all id := by
      rw [hlen]
      clear hlen rv q k hp hz
      induction bs with
      | nil => rfl
      | cons b r ih =>
        rw [List.length_cons, List.range_succ_eq_map, List.all_cons, List.all_map, List.all_cons, ← ih]
        rfl
    rw [e]
    exact ⟨.bl _, H, I.kept (h' := h') (t' := tk) fun b o e => k b o (by
      intro hb
      have : b = s.heap.objs.size := by simpa using hb
      exact absurd (Heap.lt_size e) (by rw [this]; exact Nat.lt_irrefl _)) (Heap.get?_push_of_some _ e), rfl, q⟩
end
end L2
namespace L2
open PySem PySem.Spec PyProof.Rows PySem.Builtin PySem.Builtin.Str
theorem vals_of_signs {G : Str} : ∀ {vs : List Value} {zs : List Str} {rs : List Value}, AreOf .str vs zs → Paired (fun v r => ∃ z t, v = .str z t ∧ r = .bool (!(occurrences G z 0 G.length 1).isEmpty)) vs rs →
    Vals (zs.map fun z => V.bl (!(occurrences G z 0 G.length 1).isEmpty)) rs
  | _, _, _, .nil, r => by cases r; exact .nil
  | _, _, _, .cons h hs, r => by
    cases r with
    | cons r1 r2 =>
      obtain ⟨t, rfl⟩ := h
      obtain ⟨z, t', e, rfl⟩ := r1
      cases e
      exact .cons rfl (vals_of_signs hs r2)
section
variable {X : Cx}
theorem Inv.laidN {pins : List (Addr × Obj)} {σ : St} {H : Hp} {s : Shared} {a : Addr} {o : HO} {h' : Heap} {tk : Nat} (I : Inv X pins σ H s) (k : ∀ b u, s.heap.get? b = some u → h'.get? b = some u) (na : s.heap.get? a = none)
    (new : ObjOk X.prog X.w (upd H a o) h' a o) : Inv X pins σ (upd H a o) { s with heap := h', toks := tk } := by
  have hn : H a = none := I.hok.none_of na
  refine inv_behind (s' := { s with heap := h', toks := tk }) I rfl I.bare ⟨⟨fun b u e _ _ _ => k b u e, fun b u e _ _ _ => ⟨u.slots, k b u e⟩, fun b u e n _ => ?_, fun b u e _ => ⟨u, k b u e⟩, fun b xs e => ?_, fun b u x e => ?_, fun b ps e => ?_⟩, fun b u e => ?_⟩
  · have : b ≠ a := fun z => by rw [z, na] at e; cases e
    rw [upd_ne this]
    exact n
  · rw [upd_ne (ne_of_none e hn)]; exact e
  · rw [upd_ne (ne_of_none e hn)]; exact e
  · exact ⟨#[], by rw [upd_ne (ne_of_none e hn), Array.append_empty]; exact e⟩
  · by_cases hb : b = a
    · subst hb
      rw [upd_same] at e
      cases e
      exact new
    · rw [upd_ne hb] at e
      exact (I.hok b u e).stay (fun c v _ q => k c v q) (fun c q => by rw [upd_ne (ne_of_none q hn)]; exact q) fun c xs q => by rw [upd_ne (ne_of_none q hn)]; exact q
theorem pe_compIn {x g : Str} {px p1 p2 p3 pos : Pos} {iter : Expr} {ti : TE} {scope : Scope} {G : Str} {tG : Tok} (hc : X.calm = true) (hi : PE X iter ti) (hm : X.mg g = some (.str G tG))
    (hfree : ∀ y ∈ scope.names, y.2 ≠ .free) (hcell : ∀ y ∈ scope.names, y.2 ≠ .cell) (hkind : scope.kind = .function) (hnames : ∀ y ∈ scope.names, y.2 = .local → scope.names.lookup y.1 = some .local)
    (hx : scope.names.lookup x = some .local) (hg : scope.names.lookup g = some .globalImplicit) (hd : (x == ("__debug__" : Str)) = false) (hd2 : (g == ("__debug__" : Str)) = false) (hs : ∀ x, foldedSetIterable iter X.env x = pure x := by intro _; rfl) (hmk : behindInMarks .In (.Name g p2) = false := by rfl) :
    PE X (.ListComp (.Compare (.Name x p1) [.In] [.Name g p2] p3) [⟨.Name x px, iter, [], 0⟩] scope pos)
      (fun σ H Q => ti σ H fun v H1 => ∃ y, v = .str y ∧ y.length ≤ sizeLine ∧ ∀ p, H1 p = none → Q (.ref p) (upd H1 p (.lst ((signs y).map fun z => V.bl (!(occurrences G z 0 G.length 1).isEmpty))))) := by
  intro pins s σ H Q I h
  refine wpAny_ListComp_walk (fun _ => true) (fun v r => ∃ z t, v = .str z t ∧ r = .bool (!(occurrences G z 0 G.length 1).isEmpty)) hfree hcell hkind hnames hx (thn (hi pins s σ H _ I h) fun xv s1 ⟨v, H1, I1, r1, y, e, hz, q⟩ => ?_) hs
  subst e
  obtain ⟨t, rfl⟩ := r1
  refine wpAny_pyIter_str fun o St W hst => ?_
  have up : ∀ (h' : Heap), (∀ b o', b ∉ [s1.heap.objs.size] → (s1.heap.push o).get? b = some o' → h'.get? b = some o') → ∀ b o', s1.heap.get? b = some o' → h'.get? b = some o' :=
    fun h' hk b o' e => hk b o' (old_not_new e) (Heap.get?_push_of_some _ e)
  refine ⟨s1.heap.objs.size, [s1.heap.objs.size], [s1.heap.objs.size], y.cps.size, SignAt y, St, rfl, W X.A (I1.ok.hd hc), hz, hst, ?_, ⟨?_, ?_⟩, ?_⟩
  · intro b hb
    show b < (s1.heap.push o).objs.size
    rw [Heap.size_push, List.mem_singleton.mp hb]
    exact Nat.lt_succ_self _
  · intro C i v s₃ m₃ E' hP hn hm' _ _
    exact wpAny_pure ⟨rfl, s₃.heap, s₃.toks, rfl, fun _ _ e => e⟩
  · intro C i v s₃ m₃ E' hP hp hn hm' k _
    obtain ⟨c, u, hcu, rfl⟩ := hP
    have ns : s₃.heap.Ns mainGlobals X.mg := (I1.mod.glob.keeps I1.bk).keeps (up s₃.heap k)
    refine wpAny_Compare1 (wpAny_Name (wpAny_loadName_local hkind hx hn hm' ?_) hd) hmk
    refine Calls.Name_function_global hkind hg (Calls.loadGlobal_global (by show s₃.heap.Ns X.env.globals X.mg; rw [I1.ok.glob]; exact ns) hm ?_) hd2
    exact in_str ⟨⟨_, _, rfl, rfl⟩, s₃.heap, s₃.toks, rfl, fun _ _ e => e⟩
  · intro D h' tk ys vs hnew hlD hplD hlen hP hF hk
    have hD : s1.heap.get? D = none := by
      cases e : s1.heap.get? D with
      | none => rfl
      | some ob =>
        have z : (s1.heap.push o).get? D = some ob := Heap.get?_push_of_some _ e
        have hnew' : (s1.heap.push o).get? D = none := hnew
        rw [z] at hnew'
        cases hnew'
    have hF' : Paired (fun v r => ∃ z t, v = .str z t ∧ r = .bool (!(occurrences G z 0 G.length 1).isEmpty)) vs ys.toList := by
      rw [List.filter_eq_self.mpr (fun _ _ => rfl)] at hF
      exact hF
    have rv := vals_of_signs (areOf_signs hlen hP) hF'
    obtain ⟨n0, hn0⟩ := hplD
    refine ⟨.ref D, _, I1.laidN (a := D) (o := .lst _) (tk := tk) (up h' hk) hD ⟨?_, ys.toList, n0, rv, ?_⟩, rfl, q D (I1.hok.none_of hD)⟩
    · rw [List.length_map, signs_length]; exact hz
    · rw [hn0]
end
end L2
namespace Tx
open PySem PySem.Builtin PySem.Builtin.Str PySem.NumText PyProof.Rows
end Tx
namespace Tx
open PySem PySem.Builtin PySem.Builtin.Str PySem.NumText PyProof.Rows
end Tx
namespace Lib
open PySem L2 Tx PySem.NumText
end Lib
namespace Lib
open PySem L2 Tx PySem.NumText
end Lib
namespace Tx
end Tx
namespace Lib
open PySem L2 Tx PySem.NumText
theorem rat_of {i j : Int} (h1 : 1 ≤ j) (h2 : Fr.gcd i j = 1) : ∃ q : Rat, q.num = i ∧ ((q.den : Nat) : Int) = j := by
  have hj : j ≠ 0 := by omega
  obtain ⟨g1, g2⟩ := (Fr.low_same (t := i) (b := j) (by omega)).mpr h2
  exact ⟨Rat.divInt i j, by rw [← Fr.lt_num hj, g1], by rw [← Fr.lb_den hj, g2]⟩
end Lib
namespace Lib
open PySem L2 Tx
theorem Sm.zero : Sm 0 := ⟨by show (0 : Int).natAbs < lim2; exact Nat.lt_trans (by decide) lim2_40, by show 1 < lim2; exact Nat.lt_trans (by decide) lim2_40⟩
theorem Sm.one : Sm 1 := ⟨by show (1 : Int).natAbs < lim2; exact Nat.lt_trans (by decide) lim2_40, by show 1 < lim2; exact Nat.lt_trans (by decide) lim2_40⟩
def spOfG : Sp := fun vs H Q _ => ∃ t b : Int, vs = [.int t, .int b] ∧ b ≠ 0 ∧ b.natAbs < lim ∧ ∀ p, H p = none → Q (.ref p) (upd H p (.tup [.int (Fr.lt t b), .int (Fr.lb t b)]))
end Lib
namespace L2
open PySem PySem.Spec PyProof.Rows
section
variable {prog : Program} {w : World} {A : Around} {R : Result → Shared → Prop} {s : Shared}
theorem compLoop_own {elt target iter : Expr} {ifs : List Expr} {scope : Scope} {pos : Pos} {it acc : Value} {env : Env} (I : Nat → Shared → Prop)
    (turn : ∀ n s, I n s → wpAny (model prog w) A (pyNext it) (fun r s₁ => match r with
      | none => R (.ok .next) s₁
      | some v => wpAny (model prog w) A (letOwnedTupleGo target it v) (fun _ s₁' => wpAny (model prog w) A (assign target env v) (fun _ s₂ =>
          wpAny (model prog w) A (forIn ifs true fun c r => if r = true then do let ok ← isTrue c env (eval c env); pure (ForInStep.yield ok) else pure (ForInStep.yield r)) (fun ok s₃ =>
            if ok = true then wpAny (model prog w) A (eval elt env) (fun x s₄ =>
              wpAny (model prog w) A (call (.builtin "list.append") [acc, x]) (fun _ s₅ => ∃ m, m < n ∧ I m s₅) (fun _ _ => False) s₄) (fun _ _ => False) s₃
            else ∃ m, m < n ∧ I m s₃) (fun _ _ => False) s₂) (fun _ _ => False) s₁') (fun _ _ => False) s₁) (fun _ _ => False) s)
    (n : Nat) (h : I n s) :
    codeAny (model prog w) A (.compLoop (.ListComp elt [⟨target, iter, ifs, 0⟩] scope pos) 0 it acc env) R s := by
  refine codeAny_loop rfl I (fun n s hI => ?_) n h
  show wpAny _ A ((compTurn (.ListComp elt [⟨target, iter, ifs, 0⟩] scope pos) 0 it acc env).onRaise (fun x => do noteFrame x env; theTreesLotGoes x)) _ _ s
  refine wpAny_noted ?_
  rw [compTurn_list]
  refine wpAny_bind (wpAny_standAt (wpAny_bind (wpAny_mono (turn n s hI) (fun r s₁ h₁ => ?_) fun _ _ z => z.elim)))
  cases r with
  | none => exact wpAny_pure h₁
  | some v =>
    refine wpAny_bind (wpAny_mono h₁ (fun _ s₁' h₁' => ?_) fun _ _ z => z.elim)
    refine wpAny_bind (wpAny_mono h₁' (fun _ s₂ h₂ => wpAny_bind (wpAny_mono h₂ (fun ok s₃ h₃ => ?_) fun _ _ z => z.elim)) fun _ _ z => z.elim)
    cases ok with
    | false => exact wpAny_pure ⟨rfl, h₃⟩
    | true =>
      exact wpAny_bind (wpAny_bind (wpAny_mono h₃ (fun x s₄ h₄ => wpAny_bind (wpAny_mono h₄ (fun _ s₅ h₅ => wpAny_pure (wpAny_pure ⟨rfl, h₅⟩)) fun _ _ z => z.elim)) fun _ _ z => z.elim))
end
def cxC (X : Cx) (scope : Scope) (cl : List (Str × Addr)) (N' : List Str) (C : Addr) (fp : List Addr) (pins : List (Addr × Obj)) (s2 : Shared) (H2 : Hp) : Cx :=
  { X with N := N', s₀ := s2, H₀ := H2, env := compEnvC scope cl C X.env, outer := X.stack, ex := fp, fn := fun _ => false, pn := X.pn ++ pins, xe := fun _ _ => False }
structure CapOk (X : Cx) (scope : Scope) (cl : List (Str × Addr)) : Prop where
  clos : closureFor scope X.env = pure cl
  sub : ∀ y c, cl.lookup y = some c → X.env.cells.lookup y = some c
  has : ∀ y, ((relabel scope X.env).names.lookup y = some .cell ∨ (relabel scope X.env).names.lookup y = some .free) → ∃ c, cl.lookup y = some c
theorem relabel_same {scope : Scope} {env : Env} (hfree : ∀ y ∈ scope.names, y.2 ≠ .free) : (relabel scope env).names = scope.names := by
  unfold relabel
  exact map_eq_self (l := scope.names) fun x hx => by
    obtain ⟨n, k⟩ := x
    have : (k == NameKind.free) = false := by simpa using hfree _ hx
    simp [this]
theorem cap_nil {X : Cx} {scope : Scope} (hfree : ∀ y ∈ scope.names, y.2 ≠ .free) (hcell : ∀ y ∈ scope.names, y.2 ≠ .cell) : CapOk X scope [] := by
  refine ⟨closureFor_none hfree, fun y c e => (by simp at e), fun y e => ?_⟩
  rw [relabel_same hfree] at e
  exfalso
  rcases e with e | e
  · exact hcell _ (PySem.mem_of_lookup e) rfl
  · exact hfree _ (PySem.mem_of_lookup e) rfl
def capSt (caps : List (Option Nat)) (σ : St) : St := caps.map fun o => o.bind fun j => (σ[j]?).join
section
variable {X : Cx} {pins : List (Addr × Obj)} {σ : St} {H2 : Hp} {s2 : Shared} {scope : Scope} {cl : List (Str × Addr)} {N' : List Str} {C : Addr} {fp : List Addr} {caps : List (Option Nat)}
theorem notStk (I : Inv X pins σ H2 s2) {b : Addr} (h1 : b ≠ X.env.locals) (h2 : b ∉ X.fs) : b ∉ frs X.stack := fun z => (List.mem_cons.mp (I.stkSub b z)).elim h1 h2
theorem inv_comp (I : Inv X pins σ H2 s2) (hf : ∀ b ∈ fp, FpOk X pins H2 b) (hl : ∀ b ∈ fp, b < s2.heap.objs.size) (hk : scope.kind = .function) (cap : CapOk X scope cl) (hC : s2.heap.objs.size ≤ C) {s4 : Shared} (os : s4.os = s2.os) (bare : AllBare s4.gens)
    (k : ∀ b o, s2.heap.get? b = some o → s4.heap.get? b = some o) (ns : s4.heap.Ns C fun _ => none) (hN : caps.length = N'.length)
    (hcap : ∀ (i j : Nat), caps[i]? = some (some j) → ∃ y : Str, N'[i]? = some y ∧ X.N[j]? = some y ∧ (relabel scope X.env).names.lookup y = some .cell ∧ X.env.scope.names.lookup y = some .cell) :
    Inv (cxC X scope cl N' C fp pins s2 H2) [] (capSt caps σ) H2 s4 := by
  have neC : ∀ b : Addr, b < s2.heap.objs.size → b ≠ C := fun b h => Nat.ne_of_lt (Nat.lt_of_lt_of_le h hC)
  refine ⟨⟨I.ok.mod, ?_, I.ok.glob, I.ok.blt, hC, fun y z c h1 h2 => I.ok.inj y z c (cap.sub y c h1) (cap.sub z c h2), fun y h => cap.has y h, (fun y c z => nomatch z), I.ok.hd, I.ok.frames, .inl rfl, fun b hb => ⟨neC b (hl b hb), fun y c e => (hf b hb).2.2.2.2.1 y c (cap.sub y c e)⟩,
    fun b o e => I.bs b o e, Nat.le_trans I.ok.bsz I.sz, fun b o e hb => ?_, fun b hb => notStk I (hf b hb).2.1 (hf b hb).2.2.1, I.stack, I.stkFree⟩,
    os, bare, Un.kept k, ⟨_, ns, fun i y v h1 h2 h3 => ?_⟩, fun y c e => ?_, I.hok.fresh hC, fun y c e => I.freeC y c (cap.sub y c e), fun p hp => ?_, I.hok.kept k, ?_⟩
  · show (relabel scope X.env).kind = .function
    exact hk
  · rcases (hf b hb).2.2.2.1 with z | z
    · exact I.ok.noex b o e z
    · exact absurd (Nat.lt_of_lt_of_le (Heap.lt_size e) (Nat.le_trans I.ok.bsz z)) (Nat.lt_irrefl _)
  · have h1 : N'[i]? = some y := h1
    unfold capSt at h2
    rw [List.getElem?_map] at h2
    cases hc : caps[i]? with
    | none => rw [hc] at h2; cases h2
    | some o =>
      rw [hc] at h2
      cases o with
      | none => cases h2
      | some j =>
        obtain ⟨y', e1, e2, e3, e4⟩ := hcap i j hc
        rw [h1] at e1
        cases e1
        have hj : σ[j]? = some (some v) := by
          have z : (σ[j]?).join = some v := by simpa using h2
          cases q : σ[j]? with
          | none => rw [q] at z; cases z
          | some w' => rw [q] at z; exact congrArg some z
        obtain ⟨m, hn, hm⟩ := I.loc
        obtain ⟨u, ru, lk⟩ := hm j y v e2 hj (.inr (.inl e4))
        refine ⟨u, ru, .inr ⟨.inl e3, ?_⟩⟩
        rcases lk with ⟨z, _⟩ | ⟨_, c, ec, o', ho', hd'⟩
        · rw [show X.env.kindOf y = X.env.scope.names.lookup y from rfl, e4] at z; cases z
        · obtain ⟨c', ec'⟩ := cap.has y (.inl e3)
          have := cap.sub y c' ec'
          rw [ec] at this
          cases this
          exact ⟨c, ec', o', k _ _ ho', hd'⟩
  · obtain ⟨v, o, ho, hd⟩ := I.cell y c (cap.sub y c e)
    exact ⟨v, o, k _ _ ho, hd⟩
  · have hp : p ∈ (X.pn ++ pins) ++ [] := hp
    rw [List.append_nil] at hp
    obtain ⟨e, n, ne, nf, d⟩ := I.pin p hp
    exact ⟨k _ _ e, n, neC _ (Heap.lt_size e), notStk I ne nf, d⟩
  · show (capSt caps σ).length = N'.length
    unfold capSt
    rw [List.length_map]
    exact hN
theorem comp_end {pl : List (Addr × Obj)} {σ' : St} {H' : Hp} {s' : Shared} {D : Addr} {items : Array Value} {ys : List V} {h'' : Heap} (I : Inv X pins σ H2 s2) (hf : ∀ b ∈ fp, FpOk X pins H2 b) (I' : Inv (cxC X scope cl N' C fp pins s2 H2) pl σ' H' s')
    (hpl : s'.heap.PlainList D items) (nD : H' D = none) (newD : s2.heap.get? D = none) (hDC : D ≠ C) (rv : Vals ys items.toList) (hz : ys.length ≤ sizeLine) (sb : Heap.SameBut C s'.heap h'') : Inv X pins σ (upd H' D (.lst ys)) { s' with heap := h'' } := by
  have hC : s2.heap.objs.size ≤ C := I'.ok.above
  have neC : ∀ b o, s2.heap.get? b = some o → b ≠ C := fun b o e => Nat.ne_of_lt (Nat.lt_of_lt_of_le (Heap.lt_size e) hC)
  have nC : H' C = none := I'.free
  obtain ⟨n0, ho⟩ := hpl
  refine I.call' (s' := { s' with heap := h'' }) (ch := fp) I'.os ⟨fun b o e n hb hx => sb.extBut b o (neC b o e) (I'.base.keep b o e n hb hx), fun b o e n hb hx => ?_, fun b o e n hx => ?_, fun b o e hx => ?_, fun b xs e => ?_, fun b o u e => ?_, fun b ps e => ?_⟩ (fun b o e => ?_) I'.bare fun b hb => ?_
  · obtain ⟨sl, q⟩ := I'.base.slot b o e n hb hx
    exact ⟨sl, sb.extBut b _ (neC b o e) q⟩
  · have : b ≠ D := fun z => by rw [z, newD] at e; cases e
    rw [upd_ne this]
    exact I'.base.free b o e n hx
  · obtain ⟨o', q⟩ := I'.base.there b o e hx
    exact ⟨o', sb.extBut b _ (neC b o e) q⟩
  · have q := I'.base.tups b xs e
    rw [upd_ne (ne_of_none q nD)]; exact q
  · have q := I'.base.frzs b o u e
    rw [upd_ne (ne_of_none q nD)]; exact q
  · obtain ⟨m, q⟩ := I'.base.tbls b ps e
    exact ⟨m, by rw [upd_ne (ne_of_none q nD)]; exact q⟩
  · by_cases hb : b = D
    · subst hb
      rw [upd_same] at e
      cases e
      exact ⟨hz, items.toList, n0, rv, sb.extBut _ _ hDC ho⟩
    · rw [upd_ne hb] at e
      refine (I'.hok b o e).stay (fun c v hc q => sb.extBut c v ?_ q) (fun c q => by rw [upd_ne (ne_of_none q nD)]; exact q) fun c xs q => by rw [upd_ne (ne_of_none q nD)]; exact q
      intro z
      subst z
      rcases hc with z | z
      · rw [← z, nC] at e; cases e
      · rw [nC] at z; cases z
  · obtain ⟨f0, f1, f2, f3, f4, f5⟩ := hf b hb
    exact ⟨f3, f1, f4, f5⟩
end
def PIfs (X : Cx) (ifs : List Expr) (t : TT) : Prop :=
  ∀ (pins : List (Addr × Obj)) (s : Shared) (σ : St) (H : Hp) (Q : Bool → Hp → Prop), Inv X pins σ H s → t σ H Q →
    wpAny (model X.prog X.w) X.A (forIn ifs true fun c r => if r = true then do let ok ← isTrue c X.env (eval c X.env); pure (ForInStep.yield ok) else pure (ForInStep.yield r)) (TP X pins σ Q) X.xe s
def tYes : TT := fun _ H Q => Q true H
theorem pifs_nil {X : Cx} : PIfs X [] tYes := fun pins s σ H Q I h => by
  simp only [List.forIn_nil]
  exact wpAny_pure ⟨H, I, h⟩
theorem pifs_one {X : Cx} {c : Expr} {t : TT} (hc : PT X c t) : PIfs X [c] t := fun pins s σ H Q I h => by
  simp only [List.forIn_cons, List.forIn_nil, if_true]
  exact wpAny_bind (wpAny_bind (wpAny_mono (hc pins s σ H Q I h) (fun b s' hb => wpAny_pure (wpAny_pure hb)) fun _ _ x => x))
def tCompB (g : TG) (tt : TT) (te : TE) (J : It) (σ : St) (H1 : Hp) (Q : VK) : Prop := ∃ W : Nat → Nat → St → List V → Hp → Prop, (∃ m, W 0 m σ [] H1) ∧ ∀ i m σ' ys H, W i m σ' ys H → ys.length ≤ sizeLine ∧
  ((J.stop i H ∧ ∀ p, H p = none → Q (.ref p) (upd H p (.lst ys))) ∨
   (J.go i H ∧ ∀ x H', J.yld i H x H' → g x σ' H' fun σ2 H2 => tt σ2 H2 fun b H3 => if b = true then te σ2 H3 fun y H4 => ∃ m', m' < m ∧ W (i + 1) m' σ2 (ys ++ [y]) H4 else ∃ m', m' < m ∧ W (i + 1) m' σ2 ys H3))
def tComp (wi : TI) (g : TG) (tt : TT) (te : TE) (caps : List (Option Nat)) : TE := fun σ H Q => wi σ H fun J H1 => tCompB g tt te J (capSt caps σ) H1 Q
theorem comp_run {X : Cx} {tg elt iter : Expr} {ifs : List Expr} {scope : Scope} {pos : Pos} {wi : TI} {g : TG} {tt : TT} {te : TE} {cl : List (Str × Addr)} (N' : List Str) (caps : List (Option Nat)) (hc : X.calm = true) (hi : PI X tg iter wi)
    (hg : ∀ C fp pins s2 H2, PG (cxC X scope cl N' C fp pins s2 H2) tg g) (ht : ∀ C fp pins s2 H2, PIfs (cxC X scope cl N' C fp pins s2 H2) ifs tt) (he : ∀ C fp pins s2 H2, PE (cxC X scope cl N' C fp pins s2 H2) elt te)
    (cap : CapOk X scope cl) (hcell : ∀ y ∈ scope.names, y.2 ≠ .cell) (hkind : scope.kind = .function) (hnames : ∀ y ∈ scope.names, y.2 = .local → scope.names.lookup y.1 = some .local) (hN : caps.length = N'.length)
    (hcap : ∀ (i j : Nat), caps[i]? = some (some j) → ∃ y : Str, N'[i]? = some y ∧ X.N[j]? = some y ∧ (relabel scope X.env).names.lookup y = some .cell ∧ X.env.scope.names.lookup y = some .cell)
    (hs : ∀ x, foldedSetIterable iter X.env x = pure x) {pins : List (Addr × Obj)} {s : Shared} {σ : St} {H : Hp} {Q : VK} {use : Option (Value → Sem Unit)} {QQ : Value → Shared → Prop}
    (fin : ∀ (C D : Addr) (fp : List Addr) (s2 s4 : Shared) (H2 H4 : Hp) (pl : List (Addr × Obj)) (σ' : St) (items : Array Value) (ys : List V), Inv X pins σ H2 s2 → (∀ b ∈ fp, FpOk X pins H2 b) → Inv (cxC X scope cl N' C fp pins s2 H2) pl σ' H4 s4 → s4.heap.PlainList D items → H4 D = none → s2.heap.get? D = none → D ≠ C →
      Vals ys items.toList → ys.length ≤ sizeLine → (∀ p, H4 p = none → Q (.ref p) (upd H4 p (.lst ys))) → compPost (model X.prog X.w) X.A X.xe use QQ (.ref D) C (.ok .next) s4)
    (I : Inv X pins σ H s) (h : tComp wi g tt te caps σ H Q) : wpAny (model X.prog X.w) X.A (comprehension (.ListComp elt [⟨tg, iter, ifs, 0⟩] scope pos) scope X.env (firstIterPos [⟨tg, iter, ifs, 0⟩] pos) (newList []) false (eval iter X.env) use) QQ X.xe s := by
  refine wpAny_comprehension_free (use := use) rfl hs cap.clos hkind hnames (thn (hi pins s σ H _ I h) fun xv s₁ h₁ => thn h₁ fun itv s₂ h₂ => ?_)
  obtain ⟨it, fp, tn, J, H2, rfl, I2, T, st2, f2, W, ⟨m0, w0⟩, turn⟩ := h₂
  have hfp : ∀ b ∈ fp, b < s₂.heap.objs.size := fun b hb => by obtain ⟨o, e, _⟩ := T.obj _ _ st2 b hb; exact Heap.lt_size e
  refine wpAny_newObj_type (wpAny_newFunctionEnv hcell (by intro y hy; simp at hy) (fun h₁ hns₁ hsb₁ => ?_) hkind)
  dsimp only at hns₁ hsb₁ ⊢
  generalize hH2 : s₂.heap.push { cls := .type "list", dict := none, data := .seq ([] : List Value).toArray } = H2' at hns₁ hsb₁ ⊢
  have hC : H2'.objs.size = s₂.heap.objs.size + 1 := by rw [← hH2, Heap.size_push]
  have hDC : s₂.heap.objs.size ≠ H2'.objs.size := by rw [hC]; exact Nat.ne_of_lt (Nat.lt_succ_self _)
  have hCle : s₂.heap.objs.size ≤ H2'.objs.size := by rw [hC]; exact Nat.le_succ _
  have below : ∀ b, b < s₂.heap.objs.size → b ≠ H2'.objs.size := fun b hb => by rw [hC]; exact Nat.ne_of_lt (Nat.lt_succ_of_lt hb)
  have old : ∀ b o, s₂.heap.get? b = some o → h₁.get? b = some o := fun b o e => hsb₁.extBut b o (below b (Heap.lt_size e)) (Heap.get?_push_of_some _ (hH2 ▸ Heap.get?_push_of_some _ e))
  have hacc : h₁.PlainList s₂.heap.objs.size #[] := ⟨_, hsb₁.extBut _ _ hDC (Heap.get?_push_of_some _ (hH2 ▸ Heap.get?_push_size _ rfl))⟩
  have newD : s₂.heap.get? s₂.heap.objs.size = none := Heap.get?_none_of_le (Nat.le_refl _)
  have nD2 : H2 s₂.heap.objs.size = none := I2.hok.fresh (Nat.le_refl _)
  generalize hDD : s₂.heap.objs.size = D at *
  generalize hCC : H2'.objs.size = C at *
  have fpD : ∀ b ∈ fp, b ≠ D := fun b hb => Nat.ne_of_lt (hfp b hb)
  have statX : ∀ {H' : Hp} {pl : List (Addr × Obj)}, (∀ p ∈ pl, p.1 = D) → (∀ b ∈ fp, H' b = none) → ∀ b ∈ fp, FpOk (cxC X scope cl N' C fp pins s₂ H2) pl H' b := fun {H' pl} hpl hn b hb => by
    obtain ⟨f0, f1, f2', f3, f4, f5⟩ := f2 b hb
    refine ⟨hn b hb, below b (hfp b hb), notStk I2 f1 f2', .inl hb, fun y c e => f4 y c (cap.sub y c e), fun p hp => ?_⟩
    rcases List.mem_append.mp hp with hp | hp
    · exact f5 p hp
    · rw [hpl p hp]; exact (fpD b hb).symm
  have ht' : ∀ n s', (∃ i σ' ys, ∃ (items : Array Value), ∃ H', Inv (cxC X scope cl N' C fp pins s₂ H2) [] σ' H' s' ∧ tn i s'.heap ∧ (∀ b ∈ fp, H' b = none) ∧ s'.heap.PlainList D items ∧ Vals ys items.toList ∧ H' D = none ∧ W i n σ' ys H') →
      wpAny (model X.prog X.w) X.A (pyNext (.ref it)) (fun r s₁ => match r with
      | none => compPost (model X.prog X.w) X.A X.xe use QQ (.ref D) C (.ok .next) s₁
      | some v => wpAny (model X.prog X.w) X.A (letOwnedTupleGo tg (.ref it) v) (fun _ s₁' => wpAny (model X.prog X.w) X.A (assign tg (compEnvC scope cl C X.env) v) (fun _ s₂' =>
          wpAny (model X.prog X.w) X.A (forIn ifs true fun c r => if r = true then do let ok ← isTrue c (compEnvC scope cl C X.env) (eval c (compEnvC scope cl C X.env)); pure (ForInStep.yield ok) else pure (ForInStep.yield r)) (fun ok s₃ =>
            if ok = true then wpAny (model X.prog X.w) X.A (eval elt (compEnvC scope cl C X.env)) (fun x s₄ =>
              wpAny (model X.prog X.w) X.A (call (.builtin "list.append") [.ref D, x]) (fun _ s₅ => ∃ m, m < n ∧ ∃ i σ' ys, ∃ (items : Array Value), ∃ H', Inv (cxC X scope cl N' C fp pins s₂ H2) [] σ' H' s₅ ∧ tn i s₅.heap ∧ (∀ b ∈ fp, H' b = none) ∧ s₅.heap.PlainList D items ∧ Vals ys items.toList ∧ H' D = none ∧ W i m σ' ys H') (fun _ _ => False) s₄) (fun _ _ => False) s₃
            else ∃ m, m < n ∧ ∃ i σ' ys, ∃ (items : Array Value), ∃ H', Inv (cxC X scope cl N' C fp pins s₂ H2) [] σ' H' s₃ ∧ tn i s₃.heap ∧ (∀ b ∈ fp, H' b = none) ∧ s₃.heap.PlainList D items ∧ Vals ys items.toList ∧ H' D = none ∧ W i m σ' ys H') (fun _ _ => False) s₂') (fun _ _ => False) s₁') (fun _ _ => False) s₁) (fun _ _ => False) s' := by
    rintro n s3 ⟨i, σ3, ys, items, H3, I3, st3, fr3, pl3, rv3, nD3, w3⟩
    obtain ⟨hz, hw⟩ := turn i n σ3 ys H3 w3
    obtain ⟨n0, ho⟩ := id pl3
    have nfsD : D ∉ frs X.stack := fun z => by
      obtain ⟨_, o, e, _⟩ := I2.stack.mem z
      rw [newD] at e; cases e
    have I3p : Inv (cxC X scope cl N' C fp pins s₂ H2) [(D, { cls := .type "list", data := .seq items n0 })] σ3 H3 s3 := I3.pins_of fun p hp => by
      have e : p = (D, { cls := .type "list", data := .seq items n0 }) := by simpa using hp
      subst e
      exact ⟨ho, nD3, hDC, nfsD, fun v z => by cases z⟩
    have one : ∀ p ∈ [(D, ({ cls := .type "list", data := .seq items n0 } : Obj))], p.1 = D := fun p hp => by
      have e : p = (D, { cls := .type "list", data := .seq items n0 }) := by simpa using hp
      subst e; rfl
    rcases hw with ⟨stop, qn⟩ | ⟨go, step⟩
    · refine thn (T.done (cxC X scope cl N' C fp pins s₂ H2) rfl rfl rfl hc i _ s3 σ3 H3 (fun _ _ => False) I3p (statX one fr3) st3 stop) fun r s4 ⟨hr, I4⟩ => ?_
      subst hr
      obtain ⟨e4, nD4, _⟩ := I4.pin _ (List.mem_append_right _ (List.mem_singleton.mpr rfl))
      exact fin C D fp s₂ s4 H2 H3 _ σ3 items ys I2 f2 I4 ⟨n0, e4⟩ nD4 (hDD ▸ newD) hDC rv3 hz qn
    · refine thn (T.item (cxC X scope cl N' C fp pins s₂ H2) rfl rfl rfl hc i _ s3 σ3 H3 (fun _ _ => False) I3p (statX one fr3) st3 go) fun r s4 ⟨u, hr, h4⟩ => ?_
      subst hr
      refine thn h4 fun _ s5 ⟨x, H5, I5, r5, y5, st5, fr5⟩ => ?_
      have I5' := I5.pinned (statX one fr5) (T.obj _ _ st5)
      refine thn (hg C fp pins s₂ H2 _ s5 σ3 H5 x u _ I5' r5 (step x H5 y5)) fun _ s6 ⟨σ6, H6, I6, q6⟩ => ?_
      refine thn (ht C fp pins s₂ H2 _ s6 σ6 H6 _ I6 q6) fun b s7 ⟨H7, I7, q7⟩ => ?_
      have back : ∀ {H8 : Hp} {s8 : Shared}, Inv (cxC X scope cl N' C fp pins s₂ H2) ([(D, ({ cls := .type "list", data := .seq items n0 } : Obj))] ++ pinsAt fp s5.heap) σ6 H8 s8 →
          Inv (cxC X scope cl N' C fp pins s₂ H2) [] σ6 H8 s8 ∧ tn (i + 1) s8.heap ∧ (∀ b ∈ fp, H8 b = none) ∧ s8.heap.PlainList D items ∧ H8 D = none := fun {H8 s8} I8 => by
        refine ⟨I8.pins_of (fun p hp => nomatch hp), T.keep _ _ _ st5 fun b hb o e => (I8.pin (b, o) (List.mem_append_right _ (List.mem_append_right _ (mem_pinsAt hb e)))).1, fun b hb => ?_, ?_, ?_⟩
        · obtain ⟨o, e, d⟩ := T.obj _ _ st5 b hb
          exact (I8.pin (b, o) (List.mem_append_right _ (List.mem_append_right _ (mem_pinsAt hb e)))).2.1
        · exact ⟨n0, (I8.pin _ (List.mem_append_right _ (List.mem_append_left _ (List.mem_singleton.mpr rfl)))).1⟩
        · exact (I8.pin _ (List.mem_append_right _ (List.mem_append_left _ (List.mem_singleton.mpr rfl)))).2.1
      cases b with
      | false =>
        rw [if_neg Bool.false_ne_true] at q7
        obtain ⟨m', hm, w7⟩ := q7
        obtain ⟨J1, J2, J3, J4, J5⟩ := back I7
        rw [if_neg Bool.false_ne_true]
        exact ⟨m', hm, i + 1, σ6, ys, items, H7, J1, J2, J3, J4, rv3, J5, w7⟩
      | true =>
        rw [if_pos rfl] at q7
        rw [if_pos rfl]
        refine thn (he C fp pins s₂ H2 _ s7 σ6 H7 _ I7 q7) fun v s8 ⟨y, H8, I8, r8, m', hm, w8⟩ => ?_
        obtain ⟨J1, J2, J3, J4, J5⟩ := back I8
        have hit : items.size ≤ sizeLine := by
          have e : ys.length = items.size := by simpa using rv3.length
          omega
        refine wpAny_list_append_plain (hsz := hit) J4 fun h9 hl9 hs9 => ?_
        have nc : ∀ y c, cl.lookup y = some c → c ≠ D := fun y c e z => by
          obtain ⟨v, o, ho, _⟩ := I2.cell y c (cap.sub y c e)
          rw [z, newD] at ho; cases ho
        have np : ∀ p ∈ (X.pn ++ pins) ++ [], p.1 ≠ D := fun p hp z => by
          rw [List.append_nil] at hp
          have e := (I2.pin p hp).1
          rw [z, newD] at e; cases e
        have J9 : Inv (cxC X scope cl N' C fp pins s₂ H2) [] σ6 H8 { s8 with heap := h9 } := J1.turned (it := D) (t' := s8.toks) (fun b o hb e => hs9.extBut b o hb e) J5 hDC (.inr (Nat.le_of_eq hDD)) nc np
        refine ⟨m', hm, i + 1, σ6, ys ++ [y], items.push v, H8, J9, T.keep _ _ _ J2 fun b hb o e => hs9.extBut b o (fpD b hb) e, J3, hl9, ?_, J5, w8⟩
        rw [Array.toList_push]
        exact rv3.append (.cons r8 .nil)
  have I0 : Inv (cxC X scope cl N' C fp pins s₂ H2) [] (capSt caps σ) H2 { s₂ with heap := h₁, toks := s₂.toks + ([] : List (Str × Value)).length } :=
    inv_comp I2 f2 (fun b hb => hDD ▸ hfp b hb) hkind cap (by rw [hDD]; exact hCle) rfl I2.bare old hns₁ hN hcap
  have st0 : tn 0 h₁ := T.keep _ _ _ st2 fun b _ o e => old b o e
  have loop : ∀ s₃ : Shared, s₃ = { s₂ with heap := h₁, toks := s₂.toks + ([] : List (Str × Value)).length } →
      codeAny (model X.prog X.w) X.A (.compLoop (.ListComp elt [⟨tg, iter, ifs, 0⟩] scope pos) 0 (.ref it) (.ref D) (compEnvC scope cl C X.env)) (compPost (model X.prog X.w) X.A X.xe use QQ (.ref D) C) s₃ := by
    rintro s₃ rfl
    exact compLoop_own _ ht' m0 ⟨0, _, [], #[], H2, I0, st0, fun b hb => (f2 b hb).1, hacc, .nil, nD2, w0⟩
  exact codeAny_compStart_list (loop _ rfl) (T.self X.A 0 _ _ _ st0 (loop _ rfl))
theorem pe_comp {X : Cx} {tg elt iter : Expr} {ifs : List Expr} {scope : Scope} {pos : Pos} {wi : TI} {g : TG} {tt : TT} {te : TE} {cl : List (Str × Addr)} (N' : List Str) (caps : List (Option Nat)) (hc : X.calm = true) (hi : PI X tg iter wi)
    (hg : ∀ C fp pins s2 H2, PG (cxC X scope cl N' C fp pins s2 H2) tg g) (ht : ∀ C fp pins s2 H2, PIfs (cxC X scope cl N' C fp pins s2 H2) ifs tt) (he : ∀ C fp pins s2 H2, PE (cxC X scope cl N' C fp pins s2 H2) elt te)
    (cap : CapOk X scope cl) (hcell : ∀ y ∈ scope.names, y.2 ≠ .cell) (hkind : scope.kind = .function) (hnames : ∀ y ∈ scope.names, y.2 = .local → scope.names.lookup y.1 = some .local) (hN : caps.length = N'.length)
    (hcap : ∀ (i j : Nat), caps[i]? = some (some j) → ∃ y : Str, N'[i]? = some y ∧ X.N[j]? = some y ∧ (relabel scope X.env).names.lookup y = some .cell ∧ X.env.scope.names.lookup y = some .cell)
    (hs : ∀ x, foldedSetIterable iter X.env x = pure x := by intro _; rfl) :
    PE X (.ListComp elt [⟨tg, iter, ifs, 0⟩] scope pos) (tComp wi g tt te caps) := by
  intro pins s σ H Q I h
  rw [eval_ListComp]
  refine comp_run (use := none) N' caps hc hi hg ht he cap hcell hkind hnames hN hcap hs (fun C D fp s2 s4 H2 H4 pl σ' items ys I2 f2 I4 hpl nD newD hDC rv hz qn => ?_) I h
  obtain ⟨m, hn, _⟩ := I4.loc
  exact ⟨m, hn, fun h' sb => ⟨.ref D, _, comp_end I2 f2 I4 hpl nD newD hDC rv hz sb, rfl, qn D nD⟩⟩
def tSetC (i : Nat) (t : TE) : TS := fun D σ H => t σ H fun v H1 => D.nx (σ.set i (some v)) H1
theorem ps_comp {X : Cx} {tg elt iter : Expr} {ifs : List Expr} {scope : Scope} {pos spos py : Pos} {wi : TI} {g : TG} {tt : TT} {te : TE} {cl : List (Str × Addr)} {y : Str} {i : Nat} (hND : X.N.Nodup) (hiy : X.N[i]? = some y) (hy : Loc X.env.scope y) (N' : List Str) (caps : List (Option Nat)) (hc : X.calm = true) (hi : PI X tg iter wi)
    (hg : ∀ C fp pins s2 H2, PG (cxC X scope cl N' C fp pins s2 H2) tg g) (ht : ∀ C fp pins s2 H2, PIfs (cxC X scope cl N' C fp pins s2 H2) ifs tt) (he : ∀ C fp pins s2 H2, PE (cxC X scope cl N' C fp pins s2 H2) elt te)
    (cap : CapOk X scope cl) (hcell : ∀ y ∈ scope.names, y.2 ≠ .cell) (hkind : scope.kind = .function) (hnames : ∀ y ∈ scope.names, y.2 = .local → scope.names.lookup y.1 = some .local) (hN : caps.length = N'.length)
    (hcap : ∀ (i j : Nat), caps[i]? = some (some j) → ∃ y : Str, N'[i]? = some y ∧ X.N[j]? = some y ∧ (relabel scope X.env).names.lookup y = some .cell ∧ X.env.scope.names.lookup y = some .cell)
    (hs : ∀ x, foldedSetIterable iter X.env x = pure x := by intro _; rfl) (hsw : swapsWith (.ListComp elt [⟨tg, iter, ifs, 0⟩] scope pos) (some (.Name y py)) spos.line X.env = pure true := by rfl)
    (hfn : X.fn y = true ∨ X.env.scope.names.lookup y = some .local := by first | exact .inl rfl | exact .inr rfl | assumption) :
    PS X (.Assign [.Name y py] (.ListComp elt [⟨tg, iter, ifs, 0⟩] scope pos) spos) (tSetC i (tComp wi g tt te caps)) := by
  intro pins s σ H D I h
  rw [exec_Assign_Name_used _ _ _ _ hsw]
  refine wpAny_bind (wpAny_standAt (wpAny_bind ?_))
  show wpAny _ X.A (do let _ ← comprehension (.ListComp elt [⟨tg, iter, ifs, 0⟩] scope pos) scope X.env _ (newList []) false (eval iter X.env) (some (assign (.Name y py) X.env))) _ _ s
  refine wpAny_bind (wpAny_mono (comp_run (use := some (assign (.Name y py) X.env)) (QQ := fun _ s' => SP X pins D .next s') N' caps hc hi hg ht he cap hcell hkind hnames hN hcap hs
    (fun C Dl fp s2 s4 H2 H4 pl σ' items ys I2 f2 I4 hpl nD newD hDC rv hz qn => ?_) I h) (fun _ s' hq => wpAny_pure (wpAny_pure hq)) fun _ _ e => e)
  have hC : s2.heap.objs.size ≤ C := I4.ok.above
  obtain ⟨m, hn, _⟩ := I4.loc
  obtain ⟨oC, es, ep, hoC, hdC, hrest⟩ := id hn
  have J : Inv X pins σ (upd H4 Dl (.lst ys)) s4 := comp_end I2 f2 I4 hpl nD newD hDC rv hz (Heap.SameBut.refl ..)
  have nC : upd H4 Dl (.lst ys) C = none := by rw [upd_ne (Ne.symm hDC)]; exact I4.free
  have c1 : C ≠ X.env.locals := Nat.ne_of_gt (Nat.lt_of_lt_of_le I2.lt hC)
  have c2 : C ∉ X.fs := I2.nofs hC
  have J1 : Inv X (pins ++ [(C, oC)]) σ (upd H4 Dl (.lst ys)) s4 := J.pins_of fun p hp => by
    rcases List.mem_append.mp hp with hp | hp
    · exact J.pin p (List.mem_append_right _ hp)
    · have e : p = (C, oC) := by simpa using hp
      subst e
      exact ⟨hoC, nC, c1, c2, fun v z => by rw [hdC] at z; cases z⟩
  show wpAny _ X.A (assign (.Name y py) X.env (.ref Dl)) _ _ s4
  refine wpAny_assign_Name (store_ok J1 hND hiy hy (show RelV (.ref Dl) (Value.ref Dl) from rfl) (fun s5 J5 => ?_) hfn)
  obtain ⟨e5, _⟩ := J5.pin (C, oC) (List.mem_append_right _ (List.mem_append_right _ (List.mem_singleton.mpr rfl)))
  refine ⟨m, ⟨oC, es, ep, e5, hdC, hrest⟩, fun h' sb => ?_⟩
  have J6 : Inv X pins (σ.set i (some (.ref Dl))) (upd H4 Dl (.lst ys)) s5 := J5.unpinned
  refine ⟨_, _, J6.turned (it := C) (t' := s5.toks) (fun b o hb e => sb.extBut b o hb e) nC c1 (.inr (Nat.le_trans I2.sz hC)) (fun x c e z => ?_) (fun p hp z => ?_), qn Dl nD⟩
  · obtain ⟨v, o, ho, _⟩ := I2.cell x c e
    exact absurd (Heap.lt_size ho) (by rw [z]; exact Nat.not_lt.mpr hC)
  · have e := (I2.pin p hp).1
    exact absurd (Heap.lt_size e) (by rw [z]; exact Nat.not_lt.mpr hC)
end L2
namespace L2
open PySem PySem.Spec PyProof.Rows
theorem SqT.keep {K : PySem.W.Frag} {H H' : Hp} {a : Addr} {xs : List V} (s : Same H H') (h : SqT K H a xs) : SqT K H' a xs := by
  rcases h with (h | ⟨o, h⟩) | h
  · exact .inl (.inl (s _ _ h))
  · exact .inl (.inr ⟨o, s _ _ h⟩)
  · exact .inr h
theorem SqL.keep {K : PySem.W.Frag} {H H' : Hp} {a : Addr} {xs : List V} (s : Same H H') (h : SqL K H a xs) : SqL K H' a xs := s.seq h
mutual
theorem DV.keep {K : PySem.W.Frag} {H H' : Hp} (s : Same H H') : ∀ {v : V} {d : PyData}, DV K H v d → DV K H' v d
  | _, _, .non => .non
  | _, _, .bl b => .bl b
  | _, _, .int i => .int i
  | _, _, .str x => .str x
  | _, _, .lst h q => .lst (h.keep s) (DVs.keep s q)
  | _, _, .tup h q => .tup (h.keep s) (DVs.keep s q)
  | _, _, .dct h => .dct (s _ _ h)
theorem DVs.keep {K : PySem.W.Frag} {H H' : Hp} (s : Same H H') : ∀ {vs : List V} {ds : List PyData}, DVs K H vs ds → DVs K H' vs ds
  | _, _, .nil => .nil
  | _, _, .cons h q => .cons (DV.keep s h) (DVs.keep s q)
end
section
variable {K : PySem.W.Frag} {H : Hp} {v : V} {vs : List V} {d d1 d2 d3 d4 : PyData} {ds : List PyData}
theorem DVs.len : ∀ {vs : List V} {ds : List PyData}, DVs K H vs ds → vs.length = ds.length
  | _, _, .nil => rfl
  | _, _, .cons _ q => by rw [List.length_cons, List.length_cons, DVs.len q]
theorem DVs.nil_of (h : DVs K H vs []) : vs = [] := by cases h; rfl
theorem DVs.cons_of (h : DVs K H vs (d :: ds)) : ∃ x xs, vs = x :: xs ∧ DV K H x d ∧ DVs K H xs ds := by
  cases h with
  | cons h q => exact ⟨_, _, rfl, h, q⟩
theorem DV.tup_of (h : DV K H v (.tuple ds)) : ∃ a xs, v = .ref a ∧ SqT K H a xs ∧ DVs K H xs ds := by
  cases h with
  | tup h q => exact ⟨_, _, rfl, h, q⟩
theorem DV.lst_of (h : DV K H v (.list ds)) : ∃ a xs, v = .ref a ∧ SqL K H a xs ∧ DVs K H xs ds := by
  cases h with
  | lst h q => exact ⟨_, _, rfl, h, q⟩
theorem DVs.one (h : DVs K H vs [d1]) : ∃ x, vs = [x] ∧ DV K H x d1 := by
  cases h with
  | cons h q => cases q; exact ⟨_, rfl, h⟩
theorem DVs.two (h : DVs K H vs [d1, d2]) : ∃ x y, vs = [x, y] ∧ DV K H x d1 ∧ DV K H y d2 := by
  cases h with
  | cons h q =>
    obtain ⟨y, rfl, hy⟩ := q.one
    exact ⟨_, _, rfl, h, hy⟩
theorem DVs.three (h : DVs K H vs [d1, d2, d3]) : ∃ x y z, vs = [x, y, z] ∧ DV K H x d1 ∧ DV K H y d2 ∧ DV K H z d3 := by
  cases h with
  | cons h q =>
    obtain ⟨y, z, rfl, hy, hz⟩ := q.two
    exact ⟨_, _, _, rfl, h, hy, hz⟩
theorem DVs.four (h : DVs K H vs [d1, d2, d3, d4]) : ∃ x y z u, vs = [x, y, z, u] ∧ DV K H x d1 ∧ DV K H y d2 ∧ DV K H z d3 ∧ DV K H u d4 := by
  cases h with
  | cons h q =>
    obtain ⟨y, z, u, rfl, hy, hz, hu⟩ := q.three
    exact ⟨_, _, _, _, rfl, h, hy, hz, hu⟩
theorem DV.t2 (h : DV K H v (.tuple [d1, d2])) : ∃ a x y, v = .ref a ∧ SqT K H a [x, y] ∧ DV K H x d1 ∧ DV K H y d2 := by
  obtain ⟨a, xs, rfl, ha, q⟩ := h.tup_of
  obtain ⟨x, y, rfl, hx, hy⟩ := q.two
  exact ⟨a, x, y, rfl, ha, hx, hy⟩
theorem DV.t3 (h : DV K H v (.tuple [d1, d2, d3])) : ∃ a x y z, v = .ref a ∧ SqT K H a [x, y, z] ∧ DV K H x d1 ∧ DV K H y d2 ∧ DV K H z d3 := by
  obtain ⟨a, xs, rfl, ha, q⟩ := h.tup_of
  obtain ⟨x, y, z, rfl, hx, hy, hz⟩ := q.three
  exact ⟨a, x, y, z, rfl, ha, hx, hy, hz⟩
theorem DV.t4 (h : DV K H v (.tuple [d1, d2, d3, d4])) : ∃ a x y z u, v = .ref a ∧ SqT K H a [x, y, z, u] ∧ DV K H x d1 ∧ DV K H y d2 ∧ DV K H z d3 ∧ DV K H u d4 := by
  obtain ⟨a, xs, rfl, ha, q⟩ := h.tup_of
  obtain ⟨x, y, z, u, rfl, hx, hy, hz, hu⟩ := q.four
  exact ⟨a, x, y, z, u, rfl, ha, hx, hy, hz, hu⟩
theorem DV.int_of {i : Int} (h : DV K H v (.int i)) : v = .int i := by cases h; rfl
theorem DV.str_of {x : Str} (h : DV K H v (.str x)) : v = .str x := by cases h; rfl
theorem DV.bl_of {b : Bool} (h : DV K H v (.bool b)) : v = .bl b := by cases h; rfl
theorem DV.non_of (h : DV K H v .none) : v = .non := by cases h; rfl
theorem DVs.get : ∀ {vs : List V} {ds : List PyData} {i : Nat} {v : V}, DVs K H vs ds → vs[i]? = some v → ∃ d, ds[i]? = some d ∧ DV K H v d
  | _, _, _, _, .nil, e => by simp at e
  | _, _, 0, _, .cons h _, e => by simp at e; subst e; exact ⟨_, rfl, h⟩
  | _, _, i + 1, v, .cons _ q, e => by
    obtain ⟨d, h1, h2⟩ := DVs.get (i := i) (v := v) q (by simpa using e)
    exact ⟨d, by simpa using h1, h2⟩
theorem DVs.append : ∀ {vs ws : List V} {ds es : List PyData}, DVs K H vs ds → DVs K H ws es → DVs K H (vs ++ ws) (ds ++ es)
  | _, _, _, _, .nil, q => q
  | _, _, _, _, .cons h t, q => .cons h (DVs.append t q)
end
def tyD : PyData → String
  | .none => "NoneType"
  | .bool _ => "bool"
  | .int _ => "int"
  | .str _ => "str"
  | .list _ => "list"
  | .tuple _ => "tuple"
  | .dict _ => "dict"
section
variable {X : Cx}
theorem call_isiD : CallR X (.builtin "isinstance") (fun xs H Q => ∃ x d c b, xs = [x, .ty c] ∧ DV X.K H x d ∧ bsub (tyD d) c = some b ∧ Q (.bl b) H) := by
  intro pins s σ H xs us Q I r h
  obtain ⟨x, d, c, b, rfl, hd, e, q⟩ := h
  obtain ⟨u, v, rfl, ru, rv⟩ := vals2 r
  cases (show v = Value.type c from rv)
  have e' := kit_b (K := X.K) e
  have fin : ∀ tk, EP X pins σ Q (.bool b) { s with toks := tk } := fun tk => ⟨.bl b, H, I.tok _, rfl, q⟩
  cases hd with
  | non => exact isinst_ok I ru .non e' fin
  | bl b => exact isinst_ok I ru (.bl b) e' fin
  | int i => exact isinst_ok I ru (.int i) e' fin
  | str x => exact isinst_ok I ru (.str x) e' fin
  | lst h _ =>
    cases ru
    obtain ⟨its, rv, ⟨o, n, e1, e2, _⟩, _⟩ := I.list h
    exact PySem.W.kia_one PySem.W.kitx_list I.kIn ⟨o, e1, e2⟩ e' (fun z => nomatch z) fin
  | tup h _ =>
    cases ru
    obtain ⟨its, rv, ⟨o, e1, e2, _⟩, _⟩ := I.tuple h
    exact PySem.W.kia_one PySem.W.kitx_tuple I.kIn ⟨o, e1, e2⟩ e' (fun z => nomatch z) fin
  | dct h => exact isinst_ok I ru (.dK h) e' fin
end
section
variable {X : Cx} {K : PySem.W.Frag}
theorem ix_tupK (hK : X.K = K := by rfl) : IxR X (rIxT K) := hK ▸ ix_tup
theorem pg_tupK {es : List Expr} {k : Nat} {t : TGs} {n : Nat} {pos : Pos} (hc : X.calm = true) (h : PGs X es t) (hn : (assignEach es X.env).length = n := by rfl) (hst : (assignEach es X.env).findIdx? (·.1) = none := by rfl) (hK : X.K = K := by rfl) : PG X (.Tuple es k pos) (gTup K n t) := hK ▸ pg_tup hc h hn hst
end
def Ite (K : PySem.W.Frag) (a : Addr) : It :=
  ⟨fun i H => ∃ xs x, SqL K H a xs ∧ xs[i]? = some x, fun i H x H' => ∃ p v, H p = none ∧ x = .ref p ∧ (∀ xs, SqL K H a xs → xs[i]? = some v) ∧ H' = upd H p (.tup [.int i, v]), fun i H => ∃ xs, SqL K H a xs ∧ xs.length ≤ i⟩
theorem turn_enum {P : Program} {w : World} {K : PySem.W.Frag} {elts : List Expr} {x1} {tpos : Pos} (a e it : Addr) (hne : e ≠ it) : Turn P w K (.Tuple elts x1 tpos) (Ite K a) [e, it] e (fun i h => (∃ old, IsEnum h e it (i : Int) old) ∧ h.IsListIter it a i) where
  mem := by simp
  obj := fun i h ⟨⟨old, st⟩, o', e', c', d'⟩ b hb => by
    rcases List.mem_cons.mp hb with z | z
    · subst z
      exact ⟨_, st, fun v q => by cases q⟩
    · have z : b = it := by simpa using z
      subst z
      exact ⟨o', e', fun v q => by rw [d'] at q; cases q⟩
  keep := fun i h h' ⟨⟨old, st⟩, st'⟩ k => ⟨⟨old, k e (by simp) _ st⟩, st'.at fun o q => k it (by simp) o q⟩
  item := by
    intro X hP hw hK hc i pins s σ H E I hf ⟨⟨old, st⟩, st'⟩ hg
    subst hP hw hK
    obtain ⟨xs, x, hq, hx⟩ := hg
    obtain ⟨its, rv, p, hz⟩ := I.list hq
    obtain ⟨u, hu, ru⟩ := rv.get hx
    obtain ⟨f0, f1, f2, f3, f4, f5⟩ := hf e (by simp)
    obtain ⟨g0, g1, g2, g3, g4, g5⟩ := hf it (by simp)
    refine wpAny_pyNext_enum_item st st' p.isList (x := u) (by simpa using hu) hne fun h1 heo hit1 ht1 hz1 hk1 => ?_
    refine ⟨_, rfl, ?_⟩
    refine wpAny_letOwnedTupleGo_enum heo fun h2 he2 hs2 => ?_
    have nep : ∀ b o, s.heap.get? b = some o → b ≠ s.heap.objs.size := fun b o q => Nat.ne_of_lt (Heap.lt_size q)
    have k2 : ∀ b o, b ≠ e → b ≠ it → s.heap.get? b = some o → h2.get? b = some o := fun b o h1' h2' q => hs2.extBut b o h1' (hk1 b o h1' h2' q)
    have nt : ∀ b o, H b = some o → b ≠ e ∧ b ≠ it := fun b o q => ⟨(fun z => by rw [z, f0] at q; cases q), fun z => by rw [z, g0] at q; cases q⟩
    have hp0 : H s.heap.objs.size = none := I.hok.fresh (Nat.le_refl _)
    have htp : h2.get? s.heap.objs.size = some { cls := .type "tuple", data := .seq #[.int i s.toks, u] } := hs2.extBut _ _ (Nat.ne_of_gt (Heap.lt_size st)) ht1
    have J : Inv X pins σ (upd H s.heap.objs.size (.tup [.int i, x])) { s with heap := h2, toks := s.toks + 1 } := by
      refine I.step (g' := s.gens) (d' := s.drawn) (ch := [e, it]) (fun b hb => ?_) (fun b o _ _ hc' q n => k2 b o (fun z => hc' (by simp [z])) (fun z => hc' (by simp [z])) q) (fun b o _ _ hc' q n => ⟨o.slots, k2 b o (fun z => hc' (by simp [z])) (fun z => hc' (by simp [z])) q⟩)
        (fun b o _ q n => by rw [upd_ne (nep b o q)]; exact n) (fun b o hc' q => ⟨o, k2 b o (fun z => hc' (by simp [z])) (fun z => hc' (by simp [z])) q⟩)
        (fun b ys q => by rw [upd_ne (ne_of_none q hp0)]; exact q) (fun b o y q => by rw [upd_ne (ne_of_none q hp0)]; exact q) (fun b ps q => ⟨#[], by rw [upd_ne (ne_of_none q hp0), q]; simp⟩) (fun m hm => ?_) (fun b o q => ?_) I.bare
      · rcases List.mem_cons.mp hb with z | z
        · subst z; exact ⟨f3, f1, f4, f5⟩
        · have z : b = it := by simpa using z
          subst z; exact ⟨g3, g1, g4, g5⟩
      · obtain ⟨o, es, ep, ho, r⟩ := hm
        exact ⟨o, es, ep, k2 _ o (Ne.symm f1) (Ne.symm g1) ho, r⟩
      · by_cases hb : b = s.heap.objs.size
        · subst hb
          rw [upd_same] at q
          cases q
          exact ⟨by show 2 ≤ sizeLine; decide, [.int i s.toks, u], .cons ⟨_, rfl⟩ (.cons ru .nil), _, htp, rfl, _, rfl⟩
        · rw [upd_ne hb] at q
          refine (I.hok b o q).stay (fun c v hc' z => k2 c v ?_ ?_ z) (fun c z => by rw [upd_ne (ne_of_none z hp0)]; exact z) fun c ys z => by rw [upd_ne (ne_of_none z hp0)]; exact z
          · rcases hc' with z | z
            · rw [z]; exact (nt b o q).1
            · exact (nt c _ z).1
          · rcases hc' with z | z
            · rw [z]; exact (nt b o q).2
            · exact (nt c _ z).2
    refine ⟨.ref s.heap.objs.size, _, J, rfl, ⟨s.heap.objs.size, x, hp0, rfl, (fun ys hy => by rw [I.list_inj hy hq]; exact hx), rfl⟩, ⟨⟨u, ?_⟩, ?_⟩, fun b hb => ?_⟩
    · have z : ((i + 1 : Nat) : Int) = (i : Int) + 1 := by push_cast; rfl
      rw [z]; exact he2
    · exact hit1.extBut hs2.extBut (Ne.symm hne)
    · rcases List.mem_cons.mp hb with z | z
      · subst z
        rw [upd_ne (nep _ _ st)]; exact f0
      · have z : b = it := by simpa using z
        subst z
        obtain ⟨o, q, _⟩ := st'
        rw [upd_ne (nep _ _ q)]; exact g0
  done := by
    intro X hP hw hK hc i pins s σ H E I hf ⟨⟨old, st⟩, st'⟩ hg
    subst hP hw hK
    obtain ⟨xs, hq, hx⟩ := hg
    obtain ⟨its, rv, p, hz⟩ := I.list hq
    obtain ⟨g0, g1, g2, g3, g4, g5⟩ := hf it (by simp)
    have hl := rv.length
    exact wpAny_pyNext_enum_end (I.ok.hd hc) st st' p.isList (by simp; omega) fun h' eb => ⟨rfl, I.turned (t' := s.toks) (fun b o hb e => eb b o hb e) g0 g1 g3 g4 g5⟩
  self := fun _ _ _ _ _ ⟨⟨old, st⟩, _⟩ h => wpAny_pyIter_enum st h
section
variable {X : Cx} {elts : List Expr} {x1 : Nat} {tpos : Pos}
def iEnum (K : PySem.W.Frag) (ta : TA) : TI := fun σ H R => ta σ H fun vs H1 => ∃ a, vs = [.ref a] ∧ (∃ xs, SqL K H1 a xs) ∧ R (Ite K a) H1
theorem pi_enum {a : Expr} {ta : TA} {p pos : Pos} (hg : Gl X "enumerate") (hm : X.mg "enumerate" = none) (ha : PA X [a] ta) (hs : starEach [a] X.env = [(false, eval a X.env)] := by rfl) : PI X (.Tuple elts x1 tpos) (.Call (.Name "enumerate" p) [a] [] pos) (iEnum X.K ta) := by
  intro pins s σ H R I h
  refine Call_ (ld_blt I hg hm boot_enumerate (PyProof.Rows.callWith_type1 (thn (ha pos pins s σ H _ I h) fun us s1 ⟨vs, H1, I1, r1, q1⟩ => ?_) hs rfl))
  obtain ⟨a, e, ⟨xs, hq⟩, q⟩ := q1
  subst e
  obtain ⟨u, rfl, r⟩ := vals1 r1
  cases r
  obtain ⟨its, rv, p, hz⟩ := I1.list hq
  refine call_enumerate_list p.isList fun h' he hi hsz hk => ?_
  have I2 : Inv X pins σ H1 { s1 with heap := h' } := I1.kept (t' := s1.toks) hk
  refine wpAny_pyIter_enum he ⟨s1.heap.objs.size + 1, [s1.heap.objs.size + 1, s1.heap.objs.size], _, _, H1, rfl, I2, turn_enum a _ _ (Nat.succ_ne_self _), ⟨⟨_, he⟩, hi⟩, fun b hb => ?_, q⟩
  rcases List.mem_cons.mp hb with z | z
  · subst z
    exact I1.fpOk (Nat.le_succ _) (I1.hok.fresh (Nat.le_succ _))
  · have z : b = s1.heap.objs.size := by simpa using z
    subst z
    exact I1.fpOk (Nat.le_refl _) (I1.hok.fresh (Nat.le_refl _))
end
theorem for_enum {K : PySem.W.Frag} {a : Addr} {xs : List V} {g : TG} {tb : TS} {D : Ends} {σ : St} {H : Hp} (Pv : Nat → St → Hp → Prop) (h0 : Pv 0 σ H) (hl : ∀ i σ H, i ≤ xs.length → Pv i σ H → SqL K H a xs)
    (hs : ∀ i x σ H p, xs[i]? = some x → Pv i σ H → H p = none → g (.ref p) σ (upd H p (.tup [.int i, x])) fun σ2 H2 => tb { D with nx := Pv (i + 1), ct := Pv (i + 1), bk := D.nx } σ2 H2) (hd : ∀ σ H, Pv xs.length σ H → D.nx σ H) :
    ∃ W : Nat → Nat → St → Hp → Prop, (∃ m, W 0 m σ H) ∧ ∀ i m σ H, W i m σ H →
      ((Ite K a).stop i H ∧ D.nx σ H) ∨ ((Ite K a).go i H ∧ ∃ N : St → Hp → Prop, (∀ σ' H', N σ' H' → ∃ m', m' < m ∧ W (i + 1) m' σ' H') ∧ ∀ x H', (Ite K a).yld i H x H' → g x σ H' fun σ2 H2 => tb { D with nx := N, ct := N, bk := D.nx } σ2 H2) := by
  refine ⟨fun i m σ H => m = xs.length - i ∧ i ≤ xs.length ∧ Pv i σ H, ⟨xs.length, by simp, Nat.zero_le _, h0⟩, ?_⟩
  rintro i m σ H ⟨rfl, hi, p⟩
  have q := hl i σ H hi p
  by_cases hlt : i < xs.length
  · refine .inr ⟨⟨xs, xs[i], q, by simp [hlt]⟩, Pv (i + 1), fun σ' H' p' => ⟨xs.length - (i + 1), by omega, rfl, hlt, p'⟩, fun x H' y => ?_⟩
    obtain ⟨r, v, n, rfl, y, rfl⟩ := y
    exact hs i v σ H r (y xs q) p n
  · have e : i = xs.length := by omega
    subst e
    exact .inl ⟨⟨xs, q, Nat.le_refl _⟩, hd σ H p⟩
def Nx (n : Nat) (Pv : Nat → St → List V → Hp → Prop) (i : Nat) (σ : St) (ys : List V) (H : Hp) : Prop := ∃ m', m' < n - i ∧ (m' = n - (i + 1) ∧ i + 1 ≤ n ∧ Pv (i + 1) σ ys H)
theorem nx {n : Nat} {Pv : Nat → St → List V → Hp → Prop} {i : Nat} {σ : St} {ys : List V} {H : Hp} (hi : i < n) (h : Pv (i + 1) σ ys H) : Nx n Pv i σ ys H := ⟨n - (i + 1), by omega, rfl, hi, h⟩
theorem lt_of_get {α : Type} {xs : List α} {i : Nat} {x : α} (h : xs[i]? = some x) : i < xs.length := (List.getElem?_eq_some_iff.mp h).1
theorem comp_list {K : PySem.W.Frag} {a : Addr} {xs : List V} {g : TG} {tt : TT} {te : TE} {Q : VK} {σ : St} {H : Hp} (Pv : Nat → St → List V → Hp → Prop) (h0 : Pv 0 σ [] H) (hz : ∀ i σ ys H, i ≤ xs.length → Pv i σ ys H → ys.length ≤ sizeLine ∧ SqL K H a xs)
    (hs : ∀ i x σ ys H, xs[i]? = some x → Pv i σ ys H → g x σ H fun σ2 H2 => tt σ2 H2 fun b H3 => if b = true then te σ2 H3 fun y H4 => Nx xs.length Pv i σ2 (ys ++ [y]) H4 else Nx xs.length Pv i σ2 ys H3)
    (hd : ∀ σ ys H p, Pv xs.length σ ys H → H p = none → Q (.ref p) (upd H p (.lst ys))) :
    tCompB g tt te (Itl K a) σ H Q := by
  refine ⟨fun i m σ ys H => m = xs.length - i ∧ i ≤ xs.length ∧ Pv i σ ys H, ⟨xs.length, by simp, Nat.zero_le _, h0⟩, ?_⟩
  rintro i m σ' ys H ⟨rfl, hi, p⟩
  obtain ⟨z, q⟩ := hz i σ' ys H hi p
  refine ⟨z, ?_⟩
  by_cases hlt : i < xs.length
  · refine .inr ⟨⟨xs, xs[i], q, by simp [hlt]⟩, fun x H' y => ?_⟩
    obtain ⟨rfl, y⟩ := y
    exact hs i x σ' ys _ (y xs q) p
  · have e : i = xs.length := by omega
    subst e
    exact .inl ⟨⟨xs, q, Nat.le_refl _⟩, fun r n => hd σ' ys _ r p n⟩
theorem comp_tup {K : PySem.W.Frag} {a : Addr} {xs : List V} {g : TG} {tt : TT} {te : TE} {Q : VK} {σ : St} {H : Hp} (Pv : Nat → St → List V → Hp → Prop) (h0 : Pv 0 σ [] H) (hz : ∀ i σ ys H, i ≤ xs.length → Pv i σ ys H → ys.length ≤ sizeLine ∧ SqT K H a xs)
    (hs : ∀ i x σ ys H, xs[i]? = some x → Pv i σ ys H → g x σ H fun σ2 H2 => tt σ2 H2 fun b H3 => if b = true then te σ2 H3 fun y H4 => Nx xs.length Pv i σ2 (ys ++ [y]) H4 else Nx xs.length Pv i σ2 ys H3)
    (hd : ∀ σ ys H p, Pv xs.length σ ys H → H p = none → Q (.ref p) (upd H p (.lst ys))) :
    tCompB g tt te (Itt K a) σ H Q := by
  refine ⟨fun i m σ ys H => m = xs.length - i ∧ i ≤ xs.length ∧ Pv i σ ys H, ⟨xs.length, by simp, Nat.zero_le _, h0⟩, ?_⟩
  rintro i m σ' ys H ⟨rfl, hi, p⟩
  obtain ⟨z, q⟩ := hz i σ' ys H hi p
  refine ⟨z, ?_⟩
  by_cases hlt : i < xs.length
  · refine .inr ⟨⟨xs, xs[i], q, by simp [hlt]⟩, fun x H' y => ?_⟩
    obtain ⟨rfl, y⟩ := y
    exact hs i x σ' ys _ (y xs q) p
  · have e : i = xs.length := by omega
    subst e
    exact .inl ⟨⟨xs, q, Nat.le_refl _⟩, fun r n => hd σ' ys _ r p n⟩
theorem comp_range {lo : Int} {n : Nat} {g : TG} {tt : TT} {te : TE} {Q : VK} {σ : St} {H : Hp} (Pv : Nat → St → List V → Hp → Prop) (h0 : Pv 0 σ [] H) (hz : ∀ i σ ys H, i ≤ n → Pv i σ ys H → ys.length ≤ sizeLine)
    (hs : ∀ i σ ys H, i < n → Pv i σ ys H → g (.int (lo + i)) σ H fun σ2 H2 => tt σ2 H2 fun b H3 => if b = true then te σ2 H3 fun y H4 => Nx n Pv i σ2 (ys ++ [y]) H4 else Nx n Pv i σ2 ys H3)
    (hd : ∀ σ ys H p, Pv n σ ys H → H p = none → Q (.ref p) (upd H p (.lst ys))) :
    tCompB g tt te (Itr lo n) σ H Q := by
  refine ⟨fun i m σ ys H => m = n - i ∧ i ≤ n ∧ Pv i σ ys H, ⟨n, by simp, Nat.zero_le _, h0⟩, ?_⟩
  rintro i m σ' ys H ⟨rfl, hi, p⟩
  refine ⟨hz i σ' ys H hi p, ?_⟩
  by_cases hlt : i < n
  · refine .inr ⟨hlt, fun x H' y => ?_⟩
    obtain ⟨rfl, rfl⟩ := y
    exact hs i σ' ys _ hlt p
  · have e : i = n := by omega
    subst e
    exact .inl ⟨Nat.le_refl _, fun r n => hd σ' ys _ r p n⟩
theorem comp_list0 {K : PySem.W.Frag} {a : Addr} {xs : List V} {g : TG} {te : TE} {Q : VK} {σ : St} {H : Hp} (Pv : Nat → St → List V → Hp → Prop) (h0 : Pv 0 σ [] H) (hz : ∀ i σ ys H, i ≤ xs.length → Pv i σ ys H → ys.length ≤ sizeLine ∧ SqL K H a xs)
    (hs : ∀ i x σ ys H, xs[i]? = some x → Pv i σ ys H → g x σ H fun σ2 H2 => te σ2 H2 fun y H4 => Nx xs.length Pv i σ2 (ys ++ [y]) H4)
    (hd : ∀ σ ys H p, Pv xs.length σ ys H → H p = none → Q (.ref p) (upd H p (.lst ys))) : tCompB g tYes te (Itl K a) σ H Q :=
  comp_list Pv h0 hz (fun i x σ ys H hx hp => by
    have := hs i x σ ys H hx hp
    simpa only [tYes, if_true] using this) hd
theorem comp_tup0 {K : PySem.W.Frag} {a : Addr} {xs : List V} {g : TG} {te : TE} {Q : VK} {σ : St} {H : Hp} (Pv : Nat → St → List V → Hp → Prop) (h0 : Pv 0 σ [] H) (hz : ∀ i σ ys H, i ≤ xs.length → Pv i σ ys H → ys.length ≤ sizeLine ∧ SqT K H a xs)
    (hs : ∀ i x σ ys H, xs[i]? = some x → Pv i σ ys H → g x σ H fun σ2 H2 => te σ2 H2 fun y H4 => Nx xs.length Pv i σ2 (ys ++ [y]) H4)
    (hd : ∀ σ ys H p, Pv xs.length σ ys H → H p = none → Q (.ref p) (upd H p (.lst ys))) : tCompB g tYes te (Itt K a) σ H Q :=
  comp_tup Pv h0 hz (fun i x σ ys H hx hp => by
    have := hs i x σ ys H hx hp
    simpa only [tYes, if_true] using this) hd
theorem comp_range0 {lo : Int} {n : Nat} {g : TG} {te : TE} {Q : VK} {σ : St} {H : Hp} (Pv : Nat → St → List V → Hp → Prop) (h0 : Pv 0 σ [] H) (hz : ∀ i σ ys H, i ≤ n → Pv i σ ys H → ys.length ≤ sizeLine)
    (hs : ∀ i σ ys H, i < n → Pv i σ ys H → g (.int (lo + i)) σ H fun σ2 H2 => te σ2 H2 fun y H4 => Nx n Pv i σ2 (ys ++ [y]) H4)
    (hd : ∀ σ ys H p, Pv n σ ys H → H p = none → Q (.ref p) (upd H p (.lst ys))) : tCompB g tYes te (Itr lo n) σ H Q :=
  comp_range Pv h0 hz (fun i σ ys H hx hp => by
    have := hs i σ ys H hx hp
    simpa only [tYes, if_true] using this) hd
theorem nocap {caps : List (Option Nat)} {P : Nat → Nat → Prop} (h : caps.all (·.isNone) = true) : ∀ i j, caps[i]? = some (some j) → P i j := fun i j e => by
  have := List.all_eq_true.mp h _ (List.mem_of_getElem? e)
  cases this
end L2
namespace L2
open PySem PySem.Spec PyProof.Rows
theorem RoomB.room {k : Nat} {A : Around} (r : RoomB true k A) : Room k A := ⟨r.hd rfl, r.dp, r.un⟩
structure MC (P : Program) (w : World) (K : PySem.W.Frag) (mg : Str → Option Value) (base : Heap) (k : Nat) (C : Addr) (m : Str) (ps : List Str) (sp : Sp) : Prop where
  ex : ∃ (f : Addr) (fd : FuncData), FnB P w K mg base true k f fd ps sp ∧ Meth K C m f ∧ Binds K fd ps []
  cl : Cls K C
structure MtFn (K : PySem.W.Frag) (C : Addr) (m qual : Str) (st : Stmt) : Prop where
  ex : ∃ (f : Addr) (fd : FuncData), Fun K m qual st f fd ∧ Meth K C m f
  cl : Cls K C
theorem MtFn.mc {P : Program} {w : World} {K : PySem.W.Frag} {mg : Str → Option Value} {base : Heap} {C : Addr} {m qual : Str} {st : Stmt} {N ps : List Str} {k : Nat} {sp : Sp} (T : MtFn K C m qual st) (S : FnScope N ps (defScope st))
    (hb : ∀ (kV doc pm : Value) (an : Option Addr) (cdv ct : Value) (us : List Value), us.length = ps.length → bindArgs (PySem.W.fnOf m qual (defArgs st) (defBody st) (defScope st) .none kV doc pm an cdv ct) ⟨us, []⟩ = pure (ps.zip us))
    (len : ∀ vs H Q E, sp vs H Q E → vs.length = ps.length)
    (hbody : ∀ (f : Addr) (cdv : Value) (A : Around) (outer : List Env) (s : Shared) (H : Hp) (vs : List V) (Q : VK) (E : XK), RoomB true k (A.deeper (envOfC qual (defScope st) s.heap.objs.size f cdv)) → sp vs H Q E →
      ∃ t, PSs (cxB true P w K mg base N qual (defScope st) f cdv A outer s H E).nox (defBody st) t ∧ t { nx := fun _ H' => Q .non H', rt := Q } (start N vs) H) : MC P w K mg base (k + 1) C m ps sp := by
  obtain ⟨f, fd, F, hm⟩ := T.ex
  obtain ⟨oc, od, kV, doc, pm, an, cdv, ct, osl, rfl, l, cd⟩ := id F.ex
  refine ⟨⟨f, _, fnB_of l cd S len fun A outer s H vs Q E hr h => ?_, hm, F.binds hb⟩, T.cl⟩
  obtain ⟨t, h1, h2⟩ := hbody f cdv A outer s H vs Q E hr h
  exact ⟨t, h1.nox, h2⟩
structure MkC (P : Program) (w : World) (K : PySem.W.Frag) (mg : Str → Option Value) (base : Heap) (k : Nat) (x : Str) (C : Addr) (ps : List Str) (sp : Sp) : Prop where
  ex : ∃ (f : Addr) (fd : FuncData), FnB P w K mg base true k f fd ps sp ∧ Mk K C f ∧ Binds K fd ps []
  mg : mg x = some (.ref C)
structure MkFn (K : PySem.W.Frag) (mg : Str → Option Value) (x : Str) (C : Addr) (qual : Str) (st : Stmt) : Prop where
  ex : ∃ (f : Addr) (fd : FuncData), Fun K "__init__" qual st f fd ∧ Mk K C f
  mg : mg x = some (.ref C)
theorem MkFn.mkc {P : Program} {w : World} {K : PySem.W.Frag} {mg : Str → Option Value} {base : Heap} {x : Str} {C : Addr} {qual : Str} {st : Stmt} {N ps : List Str} {k : Nat} {sp : Sp} (T : MkFn K mg x C qual st) (S : FnScope N ps (defScope st))
    (hb : ∀ (kV doc pm : Value) (an : Option Addr) (cdv ct : Value) (us : List Value), us.length = ps.length → bindArgs (PySem.W.fnOf "__init__" qual (defArgs st) (defBody st) (defScope st) .none kV doc pm an cdv ct) ⟨us, []⟩ = pure (ps.zip us))
    (len : ∀ vs H Q E, sp vs H Q E → vs.length = ps.length)
    (hbody : ∀ (f : Addr) (cdv : Value) (A : Around) (outer : List Env) (s : Shared) (H : Hp) (vs : List V) (Q : VK) (E : XK), RoomB true k (A.deeper (envOfC qual (defScope st) s.heap.objs.size f cdv)) → sp vs H Q E →
      ∃ t, PSs (cxB true P w K mg base N qual (defScope st) f cdv A outer s H E).nox (defBody st) t ∧ t { nx := fun _ H' => Q .non H', rt := Q } (start N vs) H) : MkC P w K mg base (k + 1) x C ps sp := by
  obtain ⟨f, fd, F, hm⟩ := T.ex
  obtain ⟨oc, od, kV, doc, pm, an, cdv, ct, osl, rfl, l, cd⟩ := id F.ex
  refine ⟨⟨f, _, fnB_of l cd S len fun A outer s H vs Q E hr h => ?_, hm, F.binds hb⟩, T.mg⟩
  obtain ⟨t, h1, h2⟩ := hbody f cdv A outer s H vs Q E hr h
  exact ⟨t, h1.nox, h2⟩
section
variable {X : Cx} {k : Nat} {C : Addr} {ps : List Str} {sp : Sp} {x m : Str} {p pos apos : Pos} {e o : Expr} {es : List Expr} {ta : TE} {t : TA}
def tMB (P : Program) (w : World) (K : PySem.W.Frag) (mg : Str → Option Value) (base : Heap) (k : Nat) (m : Str) (ta : TE) (t : TA) : TE := fun σ H Q => ta σ H fun x H1 => ∃ a C dx fs ps sp, x = .ref a ∧ H1 a = some (.ins C dx fs) ∧ fs.lookup m = none ∧
  MC P w K mg base k C m ps sp ∧ t σ H1 fun vs H2 => sp (x :: vs) H2 Q E0
theorem pe_mB {pl : Sem Bool} (he : PE X o ta) (hr : RoomB true k X.A) (ha : PA X (e :: es) t)
    (hst : starEach (e :: es) X.env = (false, eval e X.env) :: starEach es X.env := by rfl) (hpl : (backTo pos (starEach es X.env)).any (·.1) = false := by rfl)
    (ht : eval (.Call (.Attribute o m apos) (e :: es) [] pos) X.env = (do
      let ov ← eval o X.env
      standAt apos.atName
      let (f, first) ← holding [ov] (getMethod ov m pl)
      callWith pos f first (backTo pos (starEach (e :: es) X.env)) (backToKw pos (keywordEach [] X.env))) := by rfl) :
    PE X (.Call (.Attribute o m apos) (e :: es) [] pos) (tMB X.prog X.w X.K X.mg X.base k m ta t) := by
  intro pins s σ H Q I h
  refine PySem.W.methodCall_KW (pl := pl) (thn (he pins s σ H _ I h) fun u s1 ⟨x, H1, I1, rx, a, C, dx, fs, ps, sp, ex, ea, l, M, q⟩ => ?_) ht
  subst ex
  obtain rfl : u = Value.ref a := rx
  obtain ⟨f, fd, F, hm, hb⟩ := M.ex
  refine getmeth_ok I1 ea M.cl hm l ?_
  refine PySem.W.callWith_K (first := [.ref a]) (h₀ := X.base) I.ok.mod.kin hm.kp (thn (ha pos pins s1 σ H1 _ I1 q) fun us s2 ⟨vs, H2, I2, r, q2⟩ => ⟨I2.kIn, ?_⟩) hst hpl
  exact run_fn (us := .ref a :: us) (vs := .ref a :: vs) (dvs := []) (ds := []) (E := E0) F.ok hr.room hb .nil pass01 I2 (.cons rfl r) (by rw [List.append_nil]; exact q2)
theorem pe_mkB (M : MkC X.prog X.w X.K X.mg X.base k x C ps sp) (hr : RoomB true (k + 1) X.A) (ha : PA X (e :: es) t) (hg : Gl X x := by rfl) (hdb : (x == ("__debug__" : Str)) = false := by decide)
    (he : starEach (e :: es) X.env = (false, eval e X.env) :: starEach es X.env := by rfl) (hpl : (backTo pos (starEach es X.env)).any (·.1) = false := by rfl) :
    PE X (.Call (.Name x p) (e :: es) [] pos) (tMake C sp [] E0 t) := by
  obtain ⟨f, fd, F, hm, hb⟩ := M.ex
  exact pe_make hm F.ok hr.room hg M.mg hb .nil pass01 ha hdb he hpl
theorem pe_fldB {f : Str} (he : PE X e ta) (hb : attributeBase e f X.env (eval e X.env) = eval e X.env := by rfl) : PE X (.Attribute e f pos) (tFld X.K ta f) := pe_fld he hb
theorem ps_fldB {f : Str} {pos' : Pos} {value : Expr} {tv : TE} (ha : PE X o ta) (hv : PE X value tv) (hs : swapsWith value (some (.Attribute o f pos')) pos.line X.env = pure false := by rfl) : PS X (.Assign [.Attribute o f pos'] value pos) (sFld X.K ta tv f) := ps_fld ha hv hs
end
end L2
namespace L2
open PySem PySem.Spec PyProof.Rows
theorem clos_run (env : Env) : ∀ (l : List (Str × NameKind)) (acc : List (Str × Addr)), (∀ y ∈ l, y.2 = .free → ∃ c, env.cells.lookup y.1 = some c) →
    ∃ cl, (forIn l acc fun (x : Str × NameKind) (cs : List (Str × Addr)) => (if (x.2 == NameKind.free) = true then (cellOf env x.1 >>= fun a => pure (ForInStep.yield ((x.1, a) :: cs))) else pure (ForInStep.yield cs) : Sem (ForInStep (List (Str × Addr))))) = pure cl ∧
      (∀ y c, cl.lookup y = some c → acc.lookup y = some c ∨ env.cells.lookup y = some c) ∧ (∀ y c, acc.lookup y = some c → ∃ c', cl.lookup y = some c') ∧ ∀ y ∈ l, y.2 = .free → ∃ c, cl.lookup y.1 = some c := by
  intro l
  induction l with
  | nil => intro acc _; exact ⟨acc, rfl, fun y c e => .inl e, fun y c e => ⟨c, e⟩, fun _ h => nomatch h⟩
  | cons x r ih =>
    intro acc h
    obtain ⟨n, k⟩ := x
    have hr : ∀ y ∈ r, y.2 = .free → ∃ c, env.cells.lookup y.1 = some c := fun y hy => h y (List.mem_cons_of_mem _ hy)
    rw [List.forIn_cons]
    by_cases hk : k = .free
    · subst hk
      obtain ⟨c, hc⟩ := h (n, .free) List.mem_cons_self rfl
      have ec : cellOf env n = pure c := by unfold cellOf; rw [show env.cells.lookup n = some c from hc]
      rw [if_pos (by rfl), ec, pure_bind, pure_bind]
      obtain ⟨cl, e, h1, h2, h3⟩ := ih ((n, c) :: acc) hr
      refine ⟨cl, e, fun y c' hy => ?_, fun y c' hy => ?_, fun y hy hf => ?_⟩
      · rcases h1 y c' hy with z | z
        · rw [List.lookup_cons] at z
          split at z
          · rename_i ey
            have ey : y = n := by simpa using ey
            subst ey
            cases z
            exact .inr hc
          · exact .inl z
        · exact .inr z
      · by_cases ey : y = n
        · subst ey
          exact h2 y c (by simp)
        · have eb : (y == n) = false := by simpa using ey
          exact h2 y c' (by rw [List.lookup_cons, eb]; exact hy)
      · rcases List.mem_cons.mp hy with z | z
        · subst z
          exact h2 n c (by simp)
        · exact h3 y z hf
    · have hb : ¬ (k == NameKind.free) = true := by simpa using hk
      rw [if_neg hb, pure_bind]
      obtain ⟨cl, e, h1, h2, h3⟩ := ih acc hr
      refine ⟨cl, e, h1, h2, fun y hy hf => ?_⟩
      rcases List.mem_cons.mp hy with z | z
      · subst z; exact absurd hf hk
      · exact h3 y z hf
theorem cap_of {X : Cx} {scope : Scope} (hcell : ∀ y ∈ scope.names, y.2 ≠ .cell) (hf : ∀ y ∈ scope.names, y.2 = .free → ∃ c, X.env.cells.lookup y.1 = some c) : ∃ cl, CapOk X scope cl := by
  obtain ⟨cl, e, h1, h2, h3⟩ := clos_run X.env scope.names [] hf
  refine ⟨cl, ?_, fun y c hy => ?_, fun y hy => ?_⟩
  · unfold closureFor
    rw [show (pure cl : Sem _) = (pure cl >>= fun cs => pure cs) by rw [pure_bind], ← e]
  · rcases h1 y c hy with z | z
    · simp at z
    · exact z
  · have hm : ∃ k, (y, k) ∈ (relabel scope X.env).names ∧ (k = .cell ∨ k = .free) := by
      rcases hy with z | z
      · exact ⟨_, PySem.mem_of_lookup z, .inl rfl⟩
      · exact ⟨_, PySem.mem_of_lookup z, .inr rfl⟩
    obtain ⟨k, hm, hk⟩ := hm
    unfold relabel at hm
    obtain ⟨⟨n, k'⟩, hn, e'⟩ := List.mem_map.mp hm
    have hk' : k' = .free := by
      by_cases z : k' = .free
      · exact z
      · have zb : (k' == NameKind.free) = false := by simpa using z
        simp only [zb, Bool.false_and, Bool.false_eq_true, if_false, Prod.mk.injEq] at e'
        obtain ⟨_, rfl⟩ := e'
        rcases hk with rfl | rfl
        · exact absurd rfl (hcell _ hn)
        · exact absurd rfl z
    subst hk'
    have en : n = y := by
      dsimp only at e'
      split at e'
      · exact (Prod.mk.inj e').1
      · exact (Prod.mk.inj e').1
    subst en
    exact h3 _ hn rfl
theorem cap_def {X : Cx} {scope : Scope} {n : Nat} (hc : X.env.cells = cellsFrom n X.env.scope.names [] := by rfl) (hcell : ∀ y ∈ scope.names, y.2 ≠ .cell) (hf : ∀ y ∈ scope.names, y.2 = .free → X.env.scope.names.lookup y.1 = some .cell) : ∃ cl, CapOk X scope cl :=
  cap_of hcell fun y hy hz => by
    rw [hc]
    exact cell_has (hf y hy hz)
section
variable {X : Cx} {tg elt iter : Expr} {ifs : List Expr} {scope : Scope} {pos spos py : Pos} {wi : TI} {g : TG} {tt : TT} {te : TE}
theorem pe_compX (N' : List Str) (caps : List (Option Nat)) (hc : X.calm = true) (hi : PI X tg iter wi)
    (hg : ∀ cl C fp pins s2 H2, PG (cxC X scope cl N' C fp pins s2 H2) tg g) (ht : ∀ cl C fp pins s2 H2, PIfs (cxC X scope cl N' C fp pins s2 H2) ifs tt) (he : ∀ cl C fp pins s2 H2, PE (cxC X scope cl N' C fp pins s2 H2) elt te)
    (cap : ∃ cl, CapOk X scope cl) (hcell : ∀ y ∈ scope.names, y.2 ≠ .cell) (hkind : scope.kind = .function) (hnames : ∀ y ∈ scope.names, y.2 = .local → scope.names.lookup y.1 = some .local) (hN : caps.length = N'.length)
    (hcap : ∀ (i j : Nat), caps[i]? = some (some j) → ∃ y : Str, N'[i]? = some y ∧ X.N[j]? = some y ∧ (relabel scope X.env).names.lookup y = some .cell ∧ X.env.scope.names.lookup y = some .cell)
    (hs : ∀ x, foldedSetIterable iter X.env x = pure x := by intro _; rfl) :
    PE X (.ListComp elt [⟨tg, iter, ifs, 0⟩] scope pos) (tComp wi g tt te caps) := by
  obtain ⟨cl, cap⟩ := cap
  exact pe_comp N' caps hc hi (hg cl) (ht cl) (he cl) cap hcell hkind hnames hN hcap hs
theorem ps_compX {y : Str} {i : Nat} (hND : X.N.Nodup) (hiy : X.N[i]? = some y) (hy : Loc X.env.scope y) (N' : List Str) (caps : List (Option Nat)) (hc : X.calm = true) (hi : PI X tg iter wi)
    (hg : ∀ cl C fp pins s2 H2, PG (cxC X scope cl N' C fp pins s2 H2) tg g) (ht : ∀ cl C fp pins s2 H2, PIfs (cxC X scope cl N' C fp pins s2 H2) ifs tt) (he : ∀ cl C fp pins s2 H2, PE (cxC X scope cl N' C fp pins s2 H2) elt te)
    (cap : ∃ cl, CapOk X scope cl) (hcell : ∀ y ∈ scope.names, y.2 ≠ .cell) (hkind : scope.kind = .function) (hnames : ∀ y ∈ scope.names, y.2 = .local → scope.names.lookup y.1 = some .local) (hN : caps.length = N'.length)
    (hcap : ∀ (i j : Nat), caps[i]? = some (some j) → ∃ y : Str, N'[i]? = some y ∧ X.N[j]? = some y ∧ (relabel scope X.env).names.lookup y = some .cell ∧ X.env.scope.names.lookup y = some .cell)
    (hs : ∀ x, foldedSetIterable iter X.env x = pure x := by intro _; rfl) (hsw : swapsWith (.ListComp elt [⟨tg, iter, ifs, 0⟩] scope pos) (some (.Name y py)) spos.line X.env = pure true := by rfl)
    (hfn : X.fn y = true ∨ X.env.scope.names.lookup y = some .local := by first | exact .inl rfl | exact .inr rfl | assumption) :
    PS X (.Assign [.Name y py] (.ListComp elt [⟨tg, iter, ifs, 0⟩] scope pos) spos) (tSetC i (tComp wi g tt te caps)) := by
  obtain ⟨cl, cap⟩ := cap
  exact ps_comp hND hiy hy N' caps hc hi (hg cl) (ht cl) (he cl) cap hcell hkind hnames hN hcap hs hsw hfn
end
end L2
namespace Fr
theorem num_den_le {r : Rat} {t b : Int} (h : b ≠ 0) (e : r = Rat.divInt t b) : r.num.natAbs ≤ t.natAbs ∧ r.den ≤ b.natAbs := by
  subst e
  have h1 := lt_abs t b h
  have h2 := lb_abs (t := t) h
  rw [lt_num h] at h1
  rw [lb_den h, Int.natAbs_natCast] at h2
  exact ⟨h1, h2⟩
structure Bd (k : Nat) (q : Rat) : Prop where
  n : q.num.natAbs < 2 ^ k
  d : q.den < 2 ^ k
theorem pow_le {m n : Nat} (h : m ≤ n) : 2 ^ m ≤ 2 ^ n := Nat.pow_le_pow_right (by decide) h
theorem Bd.mono {m n : Nat} {q : Rat} (h : Bd m q) (le : m ≤ n) : Bd n q := ⟨Nat.lt_of_lt_of_le h.n (pow_le le), Nat.lt_of_lt_of_le h.d (pow_le le)⟩
theorem Bd.neg {n : Nat} {q : Rat} (h : Bd n q) : Bd n (-q) := ⟨by rw [Rat.neg_num, Int.natAbs_neg]; exact h.n, by rw [Rat.neg_den]; exact h.d⟩
theorem Bd.of {n : Nat} {t b : Int} (b0 : b ≠ 0) (ht : t.natAbs < 2 ^ n) (hb : b.natAbs < 2 ^ n) : Bd n (Rat.divInt t b) := by
  obtain ⟨h1, h2⟩ := num_den_le b0 (rfl : Rat.divInt t b = Rat.divInt t b)
  exact ⟨by omega, by omega⟩
theorem mul_lt {a b m n : Nat} (ha : a < 2 ^ m) (hb : b < 2 ^ n) : a * b < 2 ^ (m + n) := by
  rw [Nat.pow_add]
  exact Nat.mul_lt_mul'' ha hb
theorem abs_mul {x y : Int} {m n : Nat} (hx : x.natAbs < 2 ^ m) (hy : y.natAbs < 2 ^ n) : (x * y).natAbs < 2 ^ (m + n) := by
  rw [Int.natAbs_mul]; exact mul_lt hx hy
theorem abs_add {x y : Int} {n : Nat} (hx : x.natAbs < 2 ^ n) (hy : y.natAbs < 2 ^ n) : (x + y).natAbs < 2 ^ (n + 1) := by
  have := Int.natAbs_add_le x y
  rw [Nat.pow_succ]
  omega
theorem Bd.dn {n : Nat} {q : Rat} (h : Bd n q) : ((q.den : Int)).natAbs < 2 ^ n := by rw [Int.natAbs_natCast]; exact h.d
theorem dd0 (p q : Rat) : (p.den : Int) * (q.den : Int) ≠ 0 := Int.mul_ne_zero (den_ne p) (den_ne q)
section
variable {m n : Nat} {p q : Rat} (hp : Bd m p) (hq : Bd n q)
include hp hq
theorem Bd.add : Bd (m + n + 1) (p + q) := by
  rw [← sum_rat]
  refine Bd.of (dd0 p q) (abs_add (abs_mul hp.n hq.dn) ?_) (Nat.lt_of_lt_of_le (abs_mul hp.dn hq.dn) (pow_le (by omega)))
  have := abs_mul hq.n hp.dn
  rw [Nat.add_comm m n]; exact this
theorem Bd.mul : Bd (m + n) (p * q) := by
  rw [← prod_rat]
  exact Bd.of (dd0 p q) (abs_mul hp.n hq.n) (abs_mul hp.dn hq.dn)
theorem Bd.div (q0 : q ≠ 0) : Bd (m + n) (p / q) := by
  rw [← quot_rat]
  refine Bd.of (Int.mul_ne_zero (den_ne p) fun e => q0 ((num_zero q).mp e)) (abs_mul hp.n hq.dn) (abs_mul hp.dn hq.n)
end
structure Rb (n : Nat) (y u : Rat) : Prop where
  ex : ∃ (Y U : Int) (N : Nat), N ≠ 0 ∧ N < 2 ^ n ∧ Y.natAbs < 2 ^ n ∧ U.natAbs < 2 ^ n ∧ y = Rat.divInt Y N ∧ u = Rat.divInt U N
theorem Rb.mono {m n : Nat} {y u : Rat} (h : Rb m y u) (le : m ≤ n) : Rb n y u := by
  obtain ⟨Y, U, N, n0, hn, hY, hU, ey, eu⟩ := h.ex
  have := pow_le le
  exact ⟨Y, U, N, n0, by omega, by omega, by omega, ey, eu⟩
theorem Rb.y {n : Nat} {y u : Rat} (h : Rb n y u) : Bd n y := by
  obtain ⟨Y, U, N, n0, hn, hY, hU, ey, eu⟩ := h.ex
  rw [ey]
  exact Bd.of (by omega) hY (by omega)
theorem Rb.u {n : Nat} {y u : Rat} (h : Rb n y u) : Bd n u := by
  obtain ⟨Y, U, N, n0, hn, hY, hU, ey, eu⟩ := h.ex
  rw [eu]
  exact Bd.of (by omega) hU (by omega)
theorem step_rat (Y U dn : Int) (N dd : Int) (n0 : N ≠ 0) (d0 : dd ≠ 0) : Rat.divInt Y N + Rat.divInt dn dd * Rat.divInt U N = Rat.divInt (Y * dd + dn * U) (N * dd) := by
  rw [Rat.divInt_mul_divInt, Rat.divInt_add_divInt _ _ n0 (Int.mul_ne_zero d0 n0)]
  rw [show Y * (dd * N) + dn * U * N = (Y * dd + dn * U) * N by rw [Int.add_mul, Int.mul_assoc Y], show N * (dd * N) = (N * dd) * N by rw [Int.mul_assoc], Rat.divInt_mul_right n0]
theorem step_low (Y dd N : Int) (n0 : N ≠ 0) (d0 : dd ≠ 0) : Rat.divInt Y N = Rat.divInt (Y * dd) (N * dd) := (Rat.divInt_mul_right d0).symm
theorem Rb.gap {n m : Nat} {y u d : Rat} (h : Rb n y u) (hd : Bd m d) : Rb (n + m + 1) (y + d * u) u := by
  obtain ⟨Y, U, N, n0, hn, hY, hU, ey, eu⟩ := h.ex
  have N0 : (N : Int) ≠ 0 := by omega
  refine ⟨Y * (d.den : Int) + d.num * U, U * (d.den : Int), N * d.den, Nat.mul_ne_zero n0 d.den_nz, Nat.lt_of_lt_of_le (mul_lt hn hd.d) (pow_le (by omega)), abs_add (abs_mul hY hd.dn) ?_, Nat.lt_of_lt_of_le (abs_mul hU hd.dn) (pow_le (by omega)), ?_, ?_⟩
  · have := abs_mul hd.n hU
    rw [Nat.add_comm n m]; exact this
  · have := step_rat Y U d.num N (d.den : Int) N0 (den_ne d)
    rw [divInt_rat, ← ey, ← eu] at this
    rw [this]; simp
  · rw [eu, step_low U (d.den : Int) N N0 (den_ne d)]; simp
theorem Rb.swap {n : Nat} {y u : Rat} (h : Rb n y u) : Rb n u y := by
  obtain ⟨Y, U, N, n0, hn, hY, hU, ey, eu⟩ := h.ex
  exact ⟨U, Y, N, n0, hn, hU, hY, eu, ey⟩
theorem Rb.glass {n m : Nat} {y u d : Rat} (h : Rb n y u) (hd : Bd m d) : Rb (n + m + 1) y (u - d * y) := by
  have := (h.swap.gap hd.neg).swap
  rw [show u - d * y = u + -d * y by rw [Rat.neg_mul, Rat.sub_eq_add_neg]]
  exact this
end Fr
namespace Op
open Fr
inductive Pc where
  | gap (d : Rat)
  | glass (p : Rat)
  | stop (lo hi : Rat)
abbrev Ray := Rat × Rat
def Pc.lets : Pc → Ray → Bool
  | .stop lo hi, r => !decide (r.1 < lo) && !decide (hi < r.1)
  | _, _ => true
def Pc.bent : Pc → Ray → Ray
  | .gap d, r => (r.1 + d * r.2, r.2)
  | .glass p, r => (r.1, r.2 - p * r.1)
  | .stop _ _, r => r
def Pc.ok : Pc → Prop
  | .stop lo hi => ¬ hi < lo
  | _ => True
def Pc.bd (m : Nat) : Pc → Prop
  | .gap d => Bd m d
  | .glass p => Bd m p
  | .stop lo hi => Bd m lo ∧ Bd m hi
theorem Pc.bd.mono {m n : Nat} (h : m ≤ n) : ∀ {p : Pc}, p.bd m → p.bd n
  | .gap _, b => Bd.mono b h
  | .glass _, b => Bd.mono b h
  | .stop _ _, b => ⟨Bd.mono b.1 h, Bd.mono b.2 h⟩
abbrev RB (n : Nat) (r : Ray) : Prop := Rb n r.1 r.2
theorem bent_rb {n m : Nat} {r : Ray} : ∀ {p : Pc}, p.bd m → RB n r → RB (n + m + 1) (p.bent r)
  | .gap _, b, h => Rb.gap h b
  | .glass _, b, h => Rb.glass h b
  | .stop _ _, _, h => Rb.mono h (by omega)
end Op
namespace Lib
open PySem L2 Fr Op
def frD (q : Rat) : PyData := .tuple [.int q.num, .int (q.den : Int)]
def rayD (r : Ray) : PyData := .tuple [frD r.1, frD r.2]
def pcD : Pc → PyData
  | .gap d => .tuple [.str "gap", frD d]
  | .glass p => .tuple [.str "glass", frD p]
  | .stop lo hi => .tuple [.str "stop", frD lo, frD hi]
def benchD (ps : List Pc) : PyData := .list (ps.map pcD)
section
variable {K : PySem.W.Frag} {H : Hp} {v : V}
theorem _root_.L2.DV.fr {q : Rat} (h : DV K H v (frD q)) : ∃ a, v = .ref a ∧ SqT K H a [.int q.num, .int (q.den : Int)] := by
  obtain ⟨a, x, y, rfl, ha, hx, hy⟩ := DV.t2 h
  rw [hx.int_of, hy.int_of] at ha
  exact ⟨a, rfl, ha⟩
theorem dv_fr {q : Rat} {a : Addr} (h : SqT K H a [.int q.num, .int (q.den : Int)]) : DV K H (.ref a) (frD q) := .tup h (.cons (.int _) (.cons (.int _) .nil))
theorem dv_low {t b : Int} {p : Addr} (b0 : b ≠ 0) : DV K (upd H p (.tup [.int (Fr.lt t b), .int (Fr.lb t b)])) (.ref p) (frD (Rat.divInt t b)) := by
  rw [frO_of b0]
  exact dv_fr (SqT.of upd_same)
end
theorem _root_.Fr.Bd.sm {n : Nat} {q : Rat} (h : Bd n q) (hn : n ≤ 4000) : Sm q := ⟨Nat.lt_of_lt_of_le h.n (by unfold lim2; exact pow_le hn), Nat.lt_of_lt_of_le h.d (by unfold lim2; exact pow_le hn)⟩
structure Flat (n : Nat) (d : PyData) : Prop where
  c : d.canLay0 = true
  d : d.depth ≤ n
theorem Flat.sh {n : Nat} {d : PyData} (h : Flat n d) (hn : n ≤ 64) : SeqAt.shaped d = true := by
  unfold SeqAt.shaped
  rw [h.c, Bool.true_and]
  exact decide_eq_true (Nat.le_trans h.d hn)
theorem flat_all {n : Nat} : ∀ {ds : List PyData}, (∀ d ∈ ds, Flat n d) → PyData.canLayAll0 ds = true ∧ PyData.depthAll ds ≤ n
  | [], _ => ⟨rfl, Nat.zero_le _⟩
  | d :: ds, h => by
    obtain ⟨h1, h2⟩ := flat_all (fun x hx => h x (List.mem_cons_of_mem _ hx))
    have h3 := h d List.mem_cons_self
    refine ⟨?_, ?_⟩
    · rw [PyData.canLayAll0, h3.c, h1]; rfl
    · rw [PyData.depthAll]; exact Nat.max_le.mpr ⟨h3.d, h2⟩
theorem flat_tup {n : Nat} {ds : List PyData} (h : ∀ d ∈ ds, Flat n d) : Flat (n + 1) (.tuple ds) := ⟨(flat_all h).1, by rw [PyData.depth]; exact Nat.succ_le_succ (flat_all h).2⟩
theorem flat_lst {n : Nat} {ds : List PyData} (h : ∀ d ∈ ds, Flat n d) : Flat (n + 1) (.list ds) := ⟨(flat_all h).1, by rw [PyData.depth]; exact Nat.succ_le_succ (flat_all h).2⟩
theorem flat_fr (q : Rat) : Flat 1 (frD q) := ⟨rfl, by show 1 ≤ 1; exact Nat.le_refl _⟩
section
variable {K : PySem.W.Frag} {H : Hp} {x y : V} {d : PyData} {Q : VK}
theorem eq_same {n : Nat} (hx : DV K H x d) (hy : DV K H y d) (f : Flat n d) (k : Q (.bl true) H) (hn : n ≤ 64 := by decide) : rEqD K x y H Q :=
  ⟨d, d, hx, hy, f.sh hn, f.sh hn, by rw [SeqAt.eqv_refl d f.c]; exact k⟩
theorem eq_frD {p q : Rat} (hx : DV K H x (frD p)) (hy : DV K H y (frD q)) (k : Q (.bl (decide (p = q))) H) : rEqD K x y H Q :=
  ⟨_, _, hx, hy, (flat_fr p).sh (by decide), (flat_fr q).sh (by decide), by unfold frD; rw [eqv_fr]; exact k⟩
theorem ne_frD {p q : Rat} (hx : DV K H x (frD p)) (hy : DV K H y (frD q)) (k : Q (.bl (!decide (p = q))) H) : rNeD K x y H Q :=
  ⟨_, _, hx, hy, (flat_fr p).sh (by decide), (flat_fr q).sh (by decide), by unfold frD; rw [eqv_fr]; exact k⟩
end
mutual
def noL : PyData → Bool
  | .list _ => false
  | .dict _ => false
  | .tuple ds => noLs ds
  | .none => true
  | .bool _ => true
  | .int _ => true
  | .str _ => true
def noLs : List PyData → Bool
  | [] => true
  | d :: ds => noL d && noLs ds
end
def SameT (H H' : Hp) : Prop := ∀ b xs, (H b = some (.tup xs) → H' b = some (.tup xs)) ∧ ∀ o, H b = some (.frz o (.tup xs)) → H' b = some (.frz o (.tup xs))
theorem sameT_upd {H : Hp} {l : Addr} {xs : List V} (h : H l = some (.lst xs)) (o : HO) : SameT H (upd H l o) := fun b ys => ⟨fun e => by rw [upd_ne (fun z => by rw [z, h] at e; cases e)]; exact e, fun o e => by rw [upd_ne (fun z => by rw [z, h] at e; cases e)]; exact e⟩
mutual
theorem dv_keepT {K : PySem.W.Frag} {H H' : Hp} (s : SameT H H') : ∀ {v : V} {d : PyData}, noL d = true → DV K H v d → DV K H' v d
  | _, _, _, .non => .non
  | _, _, _, .bl b => .bl b
  | _, _, _, .int i => .int i
  | _, _, _, .str x => .str x
  | _, _, n, .lst h q => nomatch n
  | _, _, n, .tup h q => .tup (by
      rcases h with (h | ⟨o, h⟩) | h
      · exact .inl (.inl ((s _ _).1 h))
      · exact .inl (.inr ⟨o, (s _ _).2 o h⟩)
      · exact .inr h) (dvs_keepT s n q)
  | _, _, n, .dct h => nomatch n
theorem dvs_keepT {K : PySem.W.Frag} {H H' : Hp} (s : SameT H H') : ∀ {vs : List V} {ds : List PyData}, noLs ds = true → DVs K H vs ds → DVs K H' vs ds
  | _, _, _, .nil => .nil
  | _, _, n, .cons h q => .cons (dv_keepT s (by rw [noLs] at n; exact (Bool.and_eq_true_iff.mp n).1) h) (dvs_keepT s (by rw [noLs] at n; exact (Bool.and_eq_true_iff.mp n).2) q)
end
theorem noLs_map {α : Type} {f : α → PyData} (h : ∀ x, noL (f x) = true) : ∀ l : List α, noLs (l.map f) = true
  | [] => rfl
  | x :: l => by rw [List.map_cons, noLs, h x, noLs_map h l]; rfl
def PR (K : PySem.W.Frag) (R : List PyData → PyData → Prop) : Sp := fun vs H Q _ => ∃ ds d, DVs K H vs ds ∧ R ds d ∧ ∀ v H', Same H H' → DV K H' v d → Q v H'
def RBin (g : Rat → Rat → Rat) : List PyData → PyData → Prop := fun ds d => ∃ p q, ds = [frD p, frD q] ∧ Sm p ∧ Sm q ∧ d = frD (g p q)
def RLess : List PyData → PyData → Prop := fun ds d => ∃ p q, ds = [frD p, frD q] ∧ Sm p ∧ Sm q ∧ d = .bool (decide (p < q))
theorem DV.upd2 {K : PySem.W.Frag} {H : Hp} {r : Addr} {x y : V} {d1 d2 : PyData} (hr : H r = none) (hx : DV K H x d1) (hy : DV K H y d2) : DV K (upd H r (.tup [x, y])) (.ref r) (.tuple [d1, d2]) :=
  .tup (SqT.of upd_same) (.cons (hx.keep (same_new hr _)) (.cons (hy.keep (same_new hr _)) .nil))
theorem DV.upd4 {K : PySem.W.Frag} {H : Hp} {r : Addr} {x y z u : V} {d1 d2 d3 d4 : PyData} (hr : H r = none) (hx : DV K H x d1) (hy : DV K H y d2) (hz : DV K H z d3) (hu : DV K H u d4) : DV K (upd H r (.tup [x, y, z, u])) (.ref r) (.tuple [d1, d2, d3, d4]) :=
  .tup (SqT.of upd_same) (.cons (hx.keep (same_new hr _)) (.cons (hy.keep (same_new hr _)) (.cons (hz.keep (same_new hr _)) (.cons (hu.keep (same_new hr _)) .nil))))
def ratD : PyData → Bool
  | .tuple [.int t, .int b] => decide (1 ≤ b) && decide (Fr.gcd t b = 1)
  | _ => false
theorem ratD_fr (q : Rat) : ratD (frD q) = true := by
  show (decide (1 ≤ (q.den : Int)) && decide (Fr.gcd q.num (q.den : Int) = 1)) = true
  rw [decide_eq_true (by have := denp q; omega), decide_eq_true (frO_gcd q)]
  rfl
theorem ratD_of {d : PyData} (h : ratD d = true) : ∃ q : Rat, d = frD q := by
  unfold ratD at h
  split at h
  · rename_i t b
    obtain ⟨h1, h2⟩ := Bool.and_eq_true_iff.mp h
    obtain ⟨q, rfl, rfl⟩ := rat_of (of_decide_eq_true h1) (of_decide_eq_true h2)
    exact ⟨q, rfl⟩
  · cases h
def isIntD : PyData → Bool
  | .int _ => true
  | _ => false
def isTupD : PyData → Bool
  | .tuple _ => true
  | _ => false
theorem isInt_of {d : PyData} (h : isIntD d = true) : ∃ i, d = .int i := by
  cases d with
  | int i => exact ⟨i, rfl⟩
  | _ => cases h
theorem isTup_of {d : PyData} (h : isTupD d = true) : ∃ ds, d = .tuple ds := by
  cases d with
  | tuple ds => exact ⟨ds, rfl⟩
  | _ => cases h
theorem isInt_b (d : PyData) : ∃ b c, bsub (tyD d) "int" = some b ∧ bsub (tyD d) "bool" = some c ∧ (b && !c) = isIntD d := by
  cases d with
  | none => exact ⟨false, false, by show bsub "NoneType" "int" = _; decide +kernel, by show bsub "NoneType" "bool" = _; decide +kernel, rfl⟩
  | bool b => exact ⟨true, true, by show bsub "bool" "int" = _; decide +kernel, by show bsub "bool" "bool" = _; decide +kernel, rfl⟩
  | int i => exact ⟨true, false, by show bsub "int" "int" = _; decide +kernel, by show bsub "int" "bool" = _; decide +kernel, rfl⟩
  | str x => exact ⟨false, false, by show bsub "str" "int" = _; decide +kernel, by show bsub "str" "bool" = _; decide +kernel, rfl⟩
  | list xs => exact ⟨false, false, by show bsub "list" "int" = _; decide +kernel, by show bsub "list" "bool" = _; decide +kernel, rfl⟩
  | tuple xs => exact ⟨false, false, by show bsub "tuple" "int" = _; decide +kernel, by show bsub "tuple" "bool" = _; decide +kernel, rfl⟩
  | dict xs => exact ⟨false, false, by show bsub "dict" "int" = _; decide +kernel, by show bsub "dict" "bool" = _; decide +kernel, rfl⟩
theorem isTup_b (d : PyData) : bsub (tyD d) "tuple" = some (isTupD d) := by
  cases d with
  | none => show bsub "NoneType" "tuple" = some false; decide +kernel
  | bool b => show bsub "bool" "tuple" = some false; decide +kernel
  | int i => show bsub "int" "tuple" = some false; decide +kernel
  | str x => show bsub "str" "tuple" = some false; decide +kernel
  | list xs => show bsub "list" "tuple" = some false; decide +kernel
  | tuple xs => show bsub "tuple" "tuple" = some true; decide +kernel
  | dict xs => show bsub "dict" "tuple" = some false; decide +kernel
def isLstD : PyData → Bool
  | .list _ => true
  | _ => false
theorem isLst_b (d : PyData) : bsub (tyD d) "list" = some (isLstD d) := by
  cases d with
  | none => show bsub "NoneType" "list" = some false; decide +kernel
  | bool b => show bsub "bool" "list" = some false; decide +kernel
  | int i => show bsub "int" "list" = some false; decide +kernel
  | str x => show bsub "str" "list" = some false; decide +kernel
  | list xs => show bsub "list" "list" = some true; decide +kernel
  | tuple xs => show bsub "tuple" "list" = some false; decide +kernel
  | dict xs => show bsub "dict" "list" = some false; decide +kernel
def isStrD : PyData → Bool
  | .str _ => true
  | _ => false
theorem isStr_of {d : PyData} (h : isStrD d = true) : ∃ x, d = .str x := by
  cases d with
  | str i => exact ⟨i, rfl⟩
  | _ => cases h
theorem isStr_b (d : PyData) : bsub (tyD d) "str" = some (isStrD d) := by
  cases d with
  | none => show bsub "NoneType" "str" = some false; decide +kernel
  | bool b => show bsub "bool" "str" = some false; decide +kernel
  | int i => show bsub "int" "str" = some false; decide +kernel
  | str x => show bsub "str" "str" = some true; decide +kernel
  | list xs => show bsub "list" "str" = some false; decide +kernel
  | tuple xs => show bsub "tuple" "str" = some false; decide +kernel
  | dict xs => show bsub "dict" "str" = some false; decide +kernel
theorem ratD_no {d : PyData} (h : isTupD d = false) : ratD d = false := by
  cases d with
  | tuple ds => cases h
  | _ => rfl
theorem ratD_len {ds : List PyData} (h : ¬ ds.length = 2) : ratD (.tuple ds) = false := by
  unfold ratD
  split
  · rename_i t b e
    cases e
    exact absurd rfl h
  · rfl
theorem ratD_two {d1 d2 : PyData} (h : isIntD d1 = false ∨ isIntD d2 = false) : ratD (.tuple [d1, d2]) = false := by
  unfold ratD
  split
  · rename_i t b e
    cases e
    rcases h with h | h <;> cases h
  · rfl
def spW (K : PySem.W.Frag) : Sp := fun vs H Q _ => ∃ v d, vs = [v] ∧ DV K H v d ∧ Q (.bl (isIntD d)) H
def spRat (K : PySem.W.Frag) : Sp := fun vs H Q _ => ∃ v d, vs = [v] ∧ DV K H v d ∧ Q (.bl (ratD d)) H
def RQuo : List PyData → PyData → Prop := fun ds d => ∃ p q, ds = [frD p, frD q] ∧ Sm p ∧ Sm q ∧ q ≠ 0 ∧ d = frD (p / q)
end Lib
namespace Lib
open PySem L2 Fr Op
theorem iteT' {b : Bool} {A B : Prop} (hb : b = true) (h : A) : if b = true then A else B := by rw [if_pos hb]; exact h
theorem iteF' {b : Bool} {A B : Prop} (hb : b = false) (h : B) : if b = true then A else B := by rw [if_neg (by rw [hb]; exact Bool.false_ne_true)]; exact h
theorem sIx1 (n d : Nat) : HT.sIx n d (some 1) = min 1 n := HT.sIx_nat n d 1
theorem cut1 (xs : List V) : cutV xs (some 1) none = xs.drop 1 := by
  unfold cutV
  rw [sIx1, HT.sIx_none]
  cases xs with
  | nil => rfl
  | cons x r =>
    rw [show min 1 (x :: r).length = 1 by simp only [List.length_cons]; omega]
    exact List.take_of_length_le (by simp)
theorem decS (x y : Str) : decide (V.str x = V.str y) = decide (x = y) := by
  by_cases h : x = y
  · subst h; simp
  · have : ¬ V.str x = V.str y := fun z => h (V.str.inj z)
    rw [decide_eq_false h, decide_eq_false this]
inductive ObAt (K : PySem.W.Frag) (CG CL CS : Addr) (H : Hp) : V → Pc → Prop
  | gap {a dx : Addr} {x : V} {d : Rat} : H a = some (.ins CG dx [("length", x)]) → DV K H x (frD d) → ObAt K CG CL CS H (.ref a) (.gap d)
  | glass {a dx : Addr} {x : V} {d : Rat} : H a = some (.ins CL dx [("strength", x)]) → DV K H x (frD d) → ObAt K CG CL CS H (.ref a) (.glass d)
  | stop {a dx : Addr} {x y : V} {lo hi : Rat} : H a = some (.ins CS dx [("low", x), ("high", y)]) → DV K H x (frD lo) → DV K H y (frD hi) → ObAt K CG CL CS H (.ref a) (.stop lo hi)
theorem ObAt.keep {K : PySem.W.Frag} {CG CL CS : Addr} {H H' : Hp} (s : Same H H') : ∀ {v : V} {p : Pc}, ObAt K CG CL CS H v p → ObAt K CG CL CS H' v p
  | _, _, .gap h x => .gap (s _ _ h) (x.keep s)
  | _, _, .glass h x => .glass (s _ _ h) (x.keep s)
  | _, _, .stop h x y => .stop (s _ _ h) (x.keep s) (y.keep s)
def spInit1 (C : Addr) (f : Str) : Sp := fun vs H Q _ => ∃ a dx x, vs = [.ref a, x] ∧ H a = some (.ins C dx []) ∧ Q .non (upd H a (.ins C dx [(f, x)]))
def spInit2 (C : Addr) (f g : Str) : Sp := fun vs H Q _ => ∃ a dx x y, vs = [.ref a, x, y] ∧ H a = some (.ins C dx []) ∧ Q .non (upd H a (.ins C dx [(f, x), (g, y)]))
def spId : Sp := fun vs H Q _ => ∃ x y, vs = [x, y] ∧ Q y H
def spOb (K : PySem.W.Frag) (CG CL CS : Addr) (R : Pc → Ray → PyData) (C : Pc → Prop) : Sp := fun vs H Q _ => ∃ (o y : V) (p : Pc) (r : Ray) (n m : Nat), vs = [o, y] ∧ C p ∧ ObAt K CG CL CS H o p ∧ DV K H y (rayD r) ∧ RB n r ∧ p.bd m ∧ n + m ≤ 3900 ∧ ∀ v H', Same H H' → DV K H' v (R p r) → Q v H'
def isGap : Pc → Prop
  | .gap _ => True
  | _ => False
def isGlass : Pc → Prop
  | .glass _ => True
  | _ => False
def spPc (K : PySem.W.Frag) (CG CL CS : Addr) : Sp := fun vs H Q _ => ∃ v p, vs = [v] ∧ DV K H v (pcD p) ∧ ∀ a H', Same H H' → ObAt K CG CL CS H' (.ref a) p → Q (.ref a) H'
structure Good (m : Nat) (ps : List Pc) : Prop where
  len : ps.length ≤ 60
  ok : ∀ p ∈ ps, p.ok
  bd : ∀ p ∈ ps, p.bd m
def spLook (K : PySem.W.Frag) : Sp := fun vs H Q _ => ∃ v ps m, vs = [v] ∧ DV K H v (benchD ps) ∧ Good m ps ∧ m ≤ 4000 ∧ ∀ H', Same H H' → Q .non H'
theorem get_map_pc {ps : List Pc} {i : Nat} {d : PyData} (h : (ps.map pcD)[i]? = some d) : ∃ p, ps[i]? = some p ∧ d = pcD p := by
  rw [List.getElem?_map] at h
  cases e : ps[i]? with
  | none => rw [e] at h; cases h
  | some p => rw [e] at h; exact ⟨p, rfl, (Option.some.inj h).symm⟩
end Lib
namespace Lib
open PySem L2 Fr Op
theorem frD_neg (q : Rat) : frD (-q) = .tuple [.int (0 - q.num), .int (q.den : Int)] := by
  unfold frD
  rw [Rat.neg_num, Rat.neg_den, Int.zero_sub]
end Lib
namespace Lib
open PySem L2 Fr Op
theorem in_words (z : Str) : (if false = true then !inV (.str z) [.str "gap", .str "glass"] else inV (.str z) [.str "gap", .str "glass"]) = (decide (z = "gap") || decide (z = "glass")) := by
  rw [if_neg Bool.false_ne_true]
  unfold inV
  simp only [List.any_cons, List.any_nil, Bool.or_false]
  have h : ∀ w : Str, eqV (.str w) (.str z) = decide (z = w) := fun w => by
    show decide (w = z) = decide (z = w)
    exact decide_eq_decide.mpr ⟨Eq.symm, Eq.symm⟩
  rw [h, h]
end Lib
namespace Lib
open PySem L2 Fr Op
theorem atI0 {x : V} {xs : List V} : atI (x :: xs) 0 = some x := atI_nat (j := 0) rfl
end Lib
namespace Op
open Fr
end Op
namespace Lib
open PySem L2 Fr Op
theorem cut_drop (xs : List V) (k : Nat) : cutV xs (some (k : Int)) none = xs.drop k := by
  unfold cutV
  rw [HT.sIx_nat, HT.sIx_none]
  by_cases h : k ≤ xs.length
  · rw [Nat.min_eq_left h]
    exact List.take_of_length_le (by rw [List.length_drop]; exact Nat.le_refl _)
  · rw [Nat.min_eq_right (by omega), List.drop_eq_nil_of_le (Nat.le_refl _), List.drop_eq_nil_of_le (by omega), List.take_nil]
end Lib
namespace Op
open Fr
def bend (ps : List Pc) (r : Ray) : Ray := ps.foldl (fun r p => p.bent r) r
def both (r s : Ray) : Ray := (r.1 + s.1, r.2 + s.2)
def times (k : Rat) (r : Ray) : Ray := (k * r.1, k * r.2)
theorem bent_both (p : Pc) (r s : Ray) : p.bent (both r s) = both (p.bent r) (p.bent s) := by
  cases p with
  | gap d => simp only [Pc.bent, both]; refine Prod.ext ?_ rfl; show r.1 + s.1 + d * (r.2 + s.2) = r.1 + d * r.2 + (s.1 + d * s.2); grind
  | glass d => simp only [Pc.bent, both]; refine Prod.ext rfl ?_; show r.2 + s.2 - d * (r.1 + s.1) = r.2 - d * r.1 + (s.2 - d * s.1); grind
  | stop _ _ => rfl
theorem bent_times (p : Pc) (k : Rat) (r : Ray) : p.bent (times k r) = times k (p.bent r) := by
  cases p with
  | gap d => simp only [Pc.bent, times]; refine Prod.ext ?_ rfl; show k * r.1 + d * (k * r.2) = k * (r.1 + d * r.2); grind
  | glass d => simp only [Pc.bent, times]; refine Prod.ext rfl ?_; show k * r.2 - d * (k * r.1) = k * (r.2 - d * r.1); grind
  | stop _ _ => rfl
theorem bend_both (ps : List Pc) : ∀ r s : Ray, bend ps (both r s) = both (bend ps r) (bend ps s) := by
  induction ps with
  | nil => intro r s; rfl
  | cons p ps ih => intro r s; show bend ps (p.bent (both r s)) = _; rw [bent_both, ih]; rfl
theorem bend_times (ps : List Pc) : ∀ (k : Rat) (r : Ray), bend ps (times k r) = times k (bend ps r) := by
  induction ps with
  | nil => intro k r; rfl
  | cons p ps ih => intro k r; show bend ps (p.bent (times k r)) = _; rw [bent_times, ih]; rfl
theorem bend_rb {n m : Nat} (ps : List Pc) : ∀ (n : Nat) (r : Ray), (∀ p ∈ ps, p.bd m) → RB n r → RB (n + ps.length * (m + 1)) (bend ps r) := by
  induction ps with
  | nil => intro n r _ h; simpa [bend] using h
  | cons p ps ih =>
    intro n r hb h
    have h1 := bent_rb (hb p List.mem_cons_self) h
    have := ih _ _ (fun q hq => hb q (List.mem_cons_of_mem _ hq)) h1
    refine Rb.mono this ?_
    rw [List.length_cons, Nat.add_mul, Nat.one_mul]
    omega
end Op
namespace Lib
open PySem L2 Fr Op
end Lib
namespace Lib
open PySem L2 Fr Op
theorem flat_nil : Flat 1 (.list []) := flat_lst fun _ h => nomatch h
end Lib
namespace Op
open Fr
structure Tab where
  a : Rat
  b : Rat
  c : Rat
  d : Rat
def Tab.det (t : Tab) : Rat := t.a * t.d - t.b * t.c
def Tab.by (t : Tab) (r : Ray) : Ray := (t.a * r.1 + t.b * r.2, t.c * r.1 + t.d * r.2)
def e1 : Ray := (1, 0)
def e2 : Ray := (0, 1)
def tabOf (ps : List Pc) : Tab := ⟨(bend ps e1).1, (bend ps e2).1, (bend ps e1).2, (bend ps e2).2⟩
theorem ray_split (r : Ray) : r = both (times r.1 e1) (times r.2 e2) := by
  unfold both times e1 e2
  refine Prod.ext ?_ ?_
  · show r.1 = r.1 * 1 + r.2 * 0; grind
  · show r.2 = r.1 * 0 + r.2 * 1; grind
theorem bend_tab (ps : List Pc) (r : Ray) : bend ps r = (tabOf ps).by r := by
  have e : bend ps r = both (times r.1 (bend ps e1)) (times r.2 (bend ps e2)) := by
    rw [← bend_times, ← bend_times, ← bend_both, ← ray_split]
  rw [e]
  unfold both times Tab.by tabOf
  refine Prod.ext ?_ ?_
  · show r.1 * (bend ps e1).1 + r.2 * (bend ps e2).1 = (bend ps e1).1 * r.1 + (bend ps e2).1 * r.2; grind
  · show r.1 * (bend ps e1).2 + r.2 * (bend ps e2).2 = (bend ps e1).2 * r.1 + (bend ps e2).2 * r.2; grind
theorem det_bent (p : Pc) (r s : Ray) : (p.bent r).1 * (p.bent s).2 - (p.bent s).1 * (p.bent r).2 = r.1 * s.2 - s.1 * r.2 := by
  cases p with
  | gap d => show (r.1 + d * r.2) * s.2 - (s.1 + d * s.2) * r.2 = _; grind
  | glass d => show r.1 * (s.2 - d * s.1) - s.1 * (r.2 - d * r.1) = _; grind
  | stop _ _ => rfl
theorem det_bend (ps : List Pc) : ∀ r s : Ray, (bend ps r).1 * (bend ps s).2 - (bend ps s).1 * (bend ps r).2 = r.1 * s.2 - s.1 * r.2 := by
  induction ps with
  | nil => intro r s; rfl
  | cons p ps ih => intro r s; show (bend ps (p.bent r)).1 * (bend ps (p.bent s)).2 - (bend ps (p.bent s)).1 * (bend ps (p.bent r)).2 = _; rw [ih, det_bent]
theorem det_tab (ps : List Pc) : (tabOf ps).det = 1 := by
  have := det_bend ps e1 e2
  unfold Tab.det tabOf
  show (bend ps e1).1 * (bend ps e2).2 - (bend ps e2).1 * (bend ps e1).2 = 1
  rw [this]
  unfold e1 e2
  grind
theorem bend_append (ps qs : List Pc) (r : Ray) : bend (ps ++ qs) r = bend qs (bend ps r) := List.foldl_append ..
def Tab.then (t u : Tab) : Tab := ⟨u.a * t.a + u.b * t.c, u.a * t.b + u.b * t.d, u.c * t.a + u.d * t.c, u.c * t.b + u.d * t.d⟩
theorem tab_append (ps qs : List Pc) : tabOf (ps ++ qs) = (tabOf ps).then (tabOf qs) := by
  unfold Tab.then
  have h1 : bend (ps ++ qs) e1 = (tabOf qs).by (bend ps e1) := by rw [bend_append, bend_tab qs]
  have h2 : bend (ps ++ qs) e2 = (tabOf qs).by (bend ps e2) := by rw [bend_append, bend_tab qs]
  show Tab.mk _ _ _ _ = _
  rw [h1, h2]
  rfl
structure Tb (n : Nat) (t : Tab) : Prop where
  a : Bd n t.a
  b : Bd n t.b
  c : Bd n t.c
  d : Bd n t.d
theorem tab_bd {m : Nat} {ps : List Pc} (hb : ∀ p ∈ ps, p.bd m) : Tb (2 + ps.length * (m + 1)) (tabOf ps) := by
  have r1 : RB 2 e1 := ⟨1, 0, 1, by decide, by decide, by decide, by decide, by decide +kernel, by decide +kernel⟩
  have r2 : RB 2 e2 := ⟨0, 1, 1, by decide, by decide, by decide, by decide, by decide +kernel, by decide +kernel⟩
  have h1 := bend_rb (n := 0) ps 2 e1 hb r1
  have h2 := bend_rb (n := 0) ps 2 e2 hb r2
  exact ⟨h1.y, h2.y, h1.u, h2.u⟩
end Op
namespace Lib
open PySem L2 Fr Op
def tabD (t : Tab) : PyData := .tuple [frD t.a, frD t.b, frD t.c, frD t.d]
theorem flat_tab (t : Tab) : Flat 2 (tabD t) := flat_tup fun d hd => by
  simp only [List.mem_cons, List.not_mem_nil, or_false] at hd
  rcases hd with rfl | rfl | rfl | rfl <;> exact flat_fr _
def ofrD : Option Rat → PyData
  | none => .none
  | some q => frD q
def RIsTab : List PyData → PyData → Prop := fun ds d => ∃ t n, ds = [tabD t] ∧ Tb n t ∧ n ≤ 1900 ∧ d = .bool (decide (t.det = 1))
def RLookT : List PyData → PyData → Prop := fun ds d => ∃ t n, ds = [tabD t] ∧ Tb n t ∧ n ≤ 1900 ∧ t.det = 1 ∧ d = .none
def RRays : List PyData → PyData → Prop := fun ds d => ∃ r s : Ray, ds = [rayD r, rayD s] ∧ d = tabD ⟨r.1, s.1, r.2, s.2⟩
def RTabOf : List PyData → PyData → Prop := fun ds d => ∃ ps m, ds = [benchD ps] ∧ Good m ps ∧ 2 + ps.length * (m + 1) + m ≤ 3900 ∧ d = tabD (tabOf ps)
def RMade : List PyData → PyData → Prop := fun ds d => ∃ t r n, ds = [tabD t, rayD r] ∧ Tb n t ∧ Bd n r.1 ∧ Bd n r.2 ∧ n ≤ 1900 ∧ d = rayD (t.by r)
def RJoined : List PyData → PyData → Prop := fun ds d => ∃ t u n, ds = [tabD t, tabD u] ∧ Tb n t ∧ Tb n u ∧ n ≤ 1900 ∧ d = tabD (t.then u)
def spread (t : Tab) (s : Rat) : Ray := (t.a * s + t.b, t.c * s + t.d)
def RSpread : List PyData → PyData → Prop := fun ds d => ∃ t s n, ds = [tabD t, frD s] ∧ Tb n t ∧ Bd n s ∧ n ≤ 1900 ∧ d = rayD (spread t s)
def img (t : Tab) (s : Rat) : Option Rat := if (spread t s).2 = 0 then none else some (0 - (spread t s).1 / (spread t s).2)
def grw (t : Tab) (s : Rat) : Option Rat := if (spread t s).2 = 0 then none else some (1 / (spread t s).2)
def RImg : List PyData → PyData → Prop := fun ds d => ∃ t s n, ds = [tabD t, frD s] ∧ Tb n t ∧ t.det = 1 ∧ Bd n s ∧ n ≤ 450 ∧ d = ofrD (img t s)
def RGrw : List PyData → PyData → Prop := fun ds d => ∃ t s n, ds = [tabD t, frD s] ∧ Tb n t ∧ t.det = 1 ∧ Bd n s ∧ n ≤ 450 ∧ d = ofrD (grw t s)
theorem bd_one (n : Nat) (hn : 1 ≤ n) : Bd n (1 : Rat) := ⟨Nat.lt_of_lt_of_le (by decide : (1 : Rat).num.natAbs < 2 ^ 1) (pow_le hn), Nat.lt_of_lt_of_le (by decide : (1 : Rat).den < 2 ^ 1) (pow_le hn)⟩
theorem spread_bd {t : Tab} {s : Rat} {n : Nat} (h : Tb n t) (hs : Bd n s) : Bd (3 * n + 1) (spread t s).1 ∧ Bd (3 * n + 1) (spread t s).2 := ⟨((h.a.mul hs).add h.b).mono (by omega), ((h.c.mul hs).add h.d).mono (by omega)⟩
end Lib
namespace Lib
open PySem L2 Fr Op
def SD (d : Addr) (H H' : Hp) : Prop := ∀ b o, b ≠ d → H b = some o → H' b = some o
theorem SD.refl (d : Addr) (H : Hp) : SD d H H := fun _ _ _ h => h
theorem SD.trans {d : Addr} {H H1 H2 : Hp} (a : SD d H H1) (b : SD d H1 H2) : SD d H H2 := fun c o n h => b c o n (a c o n h)
theorem _root_.L2.Same.sd {H H' : Hp} (s : Same H H') (d : Addr) : SD d H H' := fun b o _ h => s b o h
theorem SD.t {d : Addr} {H H' : Hp} {xs : List V} (s : SD d H H') (h : H d = some (.lst xs)) : SameT H H' := fun b ys => ⟨fun e => s b _ (fun z => by rw [z, h] at e; cases e) e, fun o e => s b _ (fun z => by rw [z, h] at e; cases e) e⟩
theorem sd_upd {H : Hp} {d : Addr} {o : HO} : SD d H (upd H d o) := fun b u n h => by rw [upd_ne n]; exact h
def spCell (K : PySem.W.Frag) : Sp := fun vs H Q _ => ∃ (a : Addr) (ns : List Int) (k : Int), vs = [.ref a, .int k] ∧ SqL K H a (ns.map V.int) ∧ 0 ≤ k ∧ ∀ z : Int, Q (.int z) H
def spLowP : Sp := fun vs H Q _ => ∃ t b : Int, vs = [.int t, .int b] ∧ 0 < b ∧ b.natAbs < lim ∧ ∀ p, H p = none → Q (.ref p) (upd H p (.tup [.int (Fr.lt t b), .int (Fr.lb t b)]))
end Lib
namespace Lib
open PySem L2 Fr Op
end Lib
namespace Lib
open PySem L2 Fr Op
def spRatG (K : PySem.W.Frag) : Sp := fun vs H Q _ => ∃ v q, vs = [v] ∧ DV K H v (frD q) ∧ Q (.bl true) H
def spPieceG (K : PySem.W.Frag) : Sp := fun vs H Q _ => ∃ (v : V) (p : Pc) (m : Nat), vs = [v] ∧ DV K H v (pcD p) ∧ p.ok ∧ p.bd m ∧ m ≤ 4000 ∧ ∀ H', Same H H' → Q (.bl true) H'
inductive PSh (m : Nat) : Str → List Rat → Prop where
  | stop {lo hi : Rat} : ¬ hi < lo → Bd m lo → Bd m hi → PSh m "stop" [lo, hi]
  | one {w : Str} {d : Rat} : decide (w = "stop") = false → (decide (w = "gap") || decide (w = "glass")) = true → PSh m w [d]
theorem pc_shape {m : Nat} : ∀ {p : Pc}, p.ok → p.bd m → ∃ w es, pcD p = .tuple (.str w :: es.map frD) ∧ PSh m w es
  | .gap d, _, _ => ⟨"gap", [d], rfl, .one (by decide) (by decide)⟩
  | .glass d, _, _ => ⟨"glass", [d], rfl, .one (by decide) (by decide)⟩
  | .stop lo hi, h, b => ⟨"stop", [lo, hi], rfl, .stop h b.1 b.2⟩
theorem PSh.len {m : Nat} {w : Str} {es : List Rat} : PSh m w es → 0 < es.length ∧ es.length ≤ 2
  | .stop .. => ⟨by simp, by simp⟩
  | .one .. => ⟨by simp, by simp⟩
theorem all_rep (n : Nat) : (List.replicate n true).all id = true := by simp
theorem rep_map (n : Nat) : (List.replicate n true).map V.bl = List.replicate n (V.bl true) := by simp
theorem get_fr {es : List Rat} {i : Nat} {d : PyData} (h : (es.map frD)[i]? = some d) : ∃ q, d = frD q := by
  rw [List.getElem?_map] at h
  cases e : es[i]? with
  | none => rw [e] at h; cases h
  | some q => rw [e] at h; cases h; exact ⟨q, rfl⟩
theorem eq_frG {K : PySem.W.Frag} {H : Hp} {x y : V} {p q : Rat} {σ : List (Option V)} {Q : VK} (hx : DV K H x (frD p)) (hy : DV K H y (frD q)) (k : Q (.bl (decide (p = q))) H) : tC y σ H (fun y H2 => rEqD K x y H2 Q) := eq_frD hx hy k
end Lib
namespace Lib
open PySem L2 Fr Op
theorem tab_ext {t u : Tab} (a : t.a = u.a) (b : t.b = u.b) (c : t.c = u.c) (d : t.d = u.d) : t = u := by
  cases t; cases u; cases a; cases b; cases c; cases d; rfl
end Lib
namespace Lib
open PySem L2 Fr Op
theorem step_le (n i m : Nat) : n + i * (m + 1) + m + 1 ≤ n + (i + 1) * (m + 1) := by rw [Nat.add_mul]; omega
theorem bi_le {n i m k : Nat} (h : n + k * (m + 1) + m ≤ 3900) (hi : i < k) : n + i * (m + 1) + m ≤ 3900 := by
  have : i * (m + 1) ≤ k * (m + 1) := Nat.mul_le_mul_right _ (Nat.le_of_lt hi)
  omega
theorem le_a {n m : Nat} (h : n + m ≤ 3900) : n ≤ 4000 := by omega
theorem le_b {n m : Nat} (h : n + m ≤ 3900) : m ≤ 4000 := by omega
theorem le_ba {n m : Nat} (h : n + m ≤ 3900) : m + n ≤ 4000 := by omega
theorem by1 {α : Type} {p : List α → Prop} (h : ∀ a, p [a]) : ∀ us : List α, us.length = 1 → p us
  | [_], _ => h _
theorem by2 {α : Type} {p : List α → Prop} (h : ∀ a b, p [a, b]) : ∀ us : List α, us.length = 2 → p us
  | [_, _], _ => h _ _
theorem by3 {α : Type} {p : List α → Prop} (h : ∀ a b c, p [a, b, c]) : ∀ us : List α, us.length = 3 → p us
  | [_, _, _], _ => h _ _ _
end Lib
namespace Lib
open PySem L2 Fr Op
def RThru : List PyData → PyData → Prop := fun ds d => ∃ ps r n m, ds = [benchD ps, rayD r] ∧ Good m ps ∧ RB n r ∧ n + ps.length * (m + 1) + m ≤ 3900 ∧ d = rayD (bend ps r)
theorem bend_take {ps : List Pc} {i : Nat} {pc : Pc} (h : ps[i]? = some pc) (r : Ray) : bend (ps.take (i + 1)) r = pc.bent (bend (ps.take i) r) := by
  rw [List.take_add_one, h, bend_append]
  rfl
end Lib
namespace Lib
open PySem L2 Fr Op
theorem fr01 {K : PySem.W.Frag} {H : Hp} {p : Addr} : DV K (upd H p (.tup [.int 0, .int 1])) (.ref p) (frD 0) := .tup (SqT.of upd_same) (.cons (.int 0) (.cons (.int 1) .nil))
theorem fr11 {K : PySem.W.Frag} {H : Hp} {p : Addr} : DV K (upd H p (.tup [.int 1, .int 1])) (.ref p) (frD 1) := .tup (SqT.of upd_same) (.cons (.int 1) (.cons (.int 1) .nil))
end Lib
namespace Lib
open PySem L2 Fr Op
end Lib
namespace Lib
open PySem L2 Fr Op
end Lib
namespace Lib
open PySem L2 Fr Op
end Lib
namespace Lib
open PySem L2 Fr Op
end Lib
namespace Lib
open PySem L2 Fr Op
theorem Tb.mono {n m : Nat} {t : Tab} (h : Tb n t) (le : n ≤ m) : Tb m t := ⟨h.a.mono le, h.b.mono le, h.c.mono le, h.d.mono le⟩
end Lib
namespace Lib
open PySem L2 Fr Op
end Lib
namespace Lib
open PySem L2 Fr Op
theorem rb_e1 : RB 2 e1 := ⟨1, 0, 1, by decide, by decide, by decide, by decide, by decide +kernel, by decide +kernel⟩
theorem rb_e2 : RB 2 e2 := ⟨0, 1, 1, by decide, by decide, by decide, by decide, by decide +kernel, by decide +kernel⟩
end Lib
namespace Lib
open PySem L2 Fr Op
end Lib
namespace Lib
open PySem L2 Fr Op
end Lib
namespace Lib
open PySem L2 Fr Op
theorem Good.mono {m n : Nat} {ps : List Pc} (g : Good m ps) (h : m ≤ n) : Good n ps := ⟨g.len, g.ok, fun p hp => Pc.bd.mono h (g.bd p hp)⟩
end Lib
namespace Op
open Fr
theorem mul_den (x : Rat) : x * ((x.den : Int) : Rat) = (x.num : Rat) := by
  have h0 : ((x.den : Int) : Rat) ≠ 0 := fun h => by
    have : ((x.den : Int) : Rat) = ((0 : Int) : Rat) := h
    have := Rat.intCast_inj.mp this
    have := x.den_nz
    omega
  have h1 : x = (x.num : Rat) / ((x.den : Int) : Rat) := by
    rw [← Rat.divInt_eq_div]
    exact (Rat.num_divInt_den x).symm
  have h2 : (x.num : Rat) / ((x.den : Int) : Rat) * ((x.den : Int) : Rat) = (x.num : Rat) := Rat.div_mul_cancel h0
  rw [← h1] at h2
  exact h2
end Op
namespace Lib
open PySem L2 Fr Op
theorem int_nz {N : Int} (h : N ≠ 0) : (N : Rat) ≠ 0 := fun z => h (Rat.intCast_inj.mp (show (N : Rat) = ((0 : Int) : Rat) from z))
instance : DecidableEq Tab := fun t u => decidable_of_iff (t.a = u.a ∧ t.b = u.b ∧ t.c = u.c ∧ t.d = u.d) ⟨fun ⟨a, b, c, d⟩ => by (cases t; cases u; cases a; cases b; cases c; cases d; rfl), fun h => by rw [h]; exact ⟨rfl, rfl, rfl, rfl⟩⟩
theorem eqv_tab (t u : Tab) : PyData.eqv (tabD t) (tabD u) = decide (t = u) := by
  have e : PyData.eqv (tabD t) (tabD u) = (decide (t.a = u.a) && (decide (t.b = u.b) && (decide (t.c = u.c) && decide (t.d = u.d)))) := by
    rw [← eqv_fr, ← eqv_fr, ← eqv_fr, ← eqv_fr]
    simp [tabD, frD, PyData.eqv, PyData.eqvAll]
  rw [e]
  by_cases h : t = u
  · subst h; simp
  · rw [decide_eq_false h]
    by_cases a : t.a = u.a
    · by_cases b : t.b = u.b
      · by_cases c : t.c = u.c
        · by_cases d : t.d = u.d
          · exact absurd (tab_ext a b c d) h
          · simp [d]
        · simp [c]
      · simp [b]
    · simp [a]
theorem eq_tabD {K : PySem.W.Frag} {H : Hp} {x y : V} {t u : Tab} {Q : VK} (hx : DV K H x (tabD t)) (hy : DV K H y (tabD u)) (k : Q (.bl (decide (t = u))) H) : rEqD K x y H Q :=
  ⟨_, _, hx, hy, (flat_tab t).sh (by decide), (flat_tab u).sh (by decide), by rw [eqv_tab]; exact k⟩
end Lib
namespace Lib
open PySem L2 Fr Op
end Lib
namespace L2
open PySem PySem.Spec PyProof.Rows
end L2
namespace L2
open PySem PySem.Spec PyProof.Rows
end L2
namespace Lib
open PySem L2 Fr Op
end Lib
namespace Lib
open PySem L2 Fr Op
end Lib
namespace Lib
open PySem L2 Fr Op
end Lib
namespace Lib
open PySem L2 Fr Op
end Lib
namespace Lib
open PySem L2 Fr Op
theorem eq_nil {K : PySem.W.Frag} {H : Hp} {x y : V} {n : Nat} {ds : List PyData} {Q : VK} (hx : DV K H x (.list ds)) (hy : DV K H y (.list [])) (f : Flat n (.list ds)) (k : Q (.bl ds.isEmpty) H) (hn : n ≤ 64 := by decide) : rEqD K x y H Q := by
  refine ⟨_, _, hx, hy, f.sh hn, flat_nil.sh (by decide), ?_⟩
  have e : PyData.eqv (.list ds) (.list []) = ds.isEmpty := by
    cases ds with
    | nil => rfl
    | cons d ds => simp [PyData.eqv, PyData.eqvAll]
  rw [e]
  exact k
end Lib
namespace Lib
open PySem L2 Fr Op
end Lib
namespace L2
open PySem PySem.Spec PyProof.Rows PySem.Builtin
end L2
namespace Lib
open PySem L2 Fr Op
end Lib
namespace Lib
open PySem L2 Fr Op
end Lib
namespace Lib
open PySem L2 Fr Op
end Lib
namespace Lib
open PySem L2 Fr Op
end Lib
namespace Lib
open PySem L2 Fr Op
end Lib
namespace L2
open PySem PySem.Spec PyProof.Rows PySem.Builtin
end L2
namespace L2
open PySem PySem.Spec PyProof.Rows PySem.Builtin
end L2
namespace L2
open PySem PySem.Spec PyProof.Rows PySem.Builtin
end L2
namespace L2
open PySem PySem.Spec PyProof.Rows PySem.Builtin
end L2
namespace L2
open PySem PySem.Spec PyProof.Rows PySem.Builtin
end L2
namespace L2
open PySem PySem.Spec PyProof.Rows
theorem bt_min : bootBuiltins "min" = some (.builtin "min") := by decide +kernel
end L2
namespace Lib
open PySem L2 Fr Op
def RNeg : List PyData → PyData → Prop := fun ds d => ∃ q, ds = [frD q] ∧ d = frD (-q)
end Lib
namespace Op
open Fr
end Op
namespace Lib
open PySem L2 Fr Op
end Lib
namespace Op
open Fr
end Op
namespace Lib
open PySem L2 Fr Op
structure SrcA (H : Hp) (d : Addr) : Prop where
  x : ∃ a b : Int, H d = some (.lst [.int a, .int b]) ∧ 0 ≤ b ∧ b < 2147483647
theorem SrcA.keep {H H' : Hp} {d : Addr} (h : SrcA H d) (s : Same H H') : SrcA H' d := by
  obtain ⟨a, b, h1, h2⟩ := h.x
  exact ⟨a, b, s _ _ h1, h2⟩
theorem SrcA.nd {H : Hp} {d p : Addr} (h : SrcA H d) (hp : H p = none) : p ≠ d := fun e => by
  obtain ⟨a, b, h1, h2⟩ := h.x
  rw [e, h1] at hp; cases hp
theorem SrcA.t {H H' : Hp} {d : Addr} (h : SrcA H d) (s : SD d H H') : SameT H H' := by
  obtain ⟨a, b, h1, _⟩ := h.x
  exact s.t h1
theorem SrcA.dv {K : PySem.W.Frag} {H H' : Hp} {d : Addr} {v : V} {x : PyData} (h : SrcA H d) (s : SD d H H') (hx : DV K H v x) (n : noL x = true := by rfl) : DV K H' v x := dv_keepT (h.t s) n hx
def spSrc (K : PySem.W.Frag) : Sp := fun vs H Q _ => ∃ (a : Addr) (ns : List Int) (k : Int), vs = [.ref a, .int k] ∧ SqL K H a (ns.map V.int) ∧ 0 ≤ k ∧ k < 1000 ∧ ∀ d H', Same H H' → H d = none → SrcA H' d → Q (.ref d) H'
def spDrawS : Sp := fun vs H Q _ => ∃ (d : Addr) (m : Int), vs = [.ref d, .int m] ∧ SrcA H d ∧ (0 < m ∧ m < 1073741824) ∧ ∀ (x : Int) H', 0 ≤ x → x < m → SrcA H' d → SD d H H' → Q (.int x) H'
def spPartS (K : PySem.W.Frag) : Sp := fun vs H Q _ => ∃ d : Addr, vs = [.ref d] ∧ SrcA H d ∧ ∀ v H' q, SrcA H' d → SD d H H' → DV K H' v (frD q) → Bd 7 q → Q v H'
theorem SD.same {H0 H H' : Hp} {d : Addr} (s0 : Same H0 H) (hd : H0 d = none) (s : SD d H H') : Same H0 H' := fun b o e => s b o (fun z => by rw [z, hd] at e; cases e) (s0 _ _ e)
end Lib
namespace Lib
open PySem L2 Fr Op
end Lib
namespace L2
open PySem PySem.Spec PyProof.Rows PySem.Builtin
end L2
namespace Op
open Fr
end Op
namespace Lib
open PySem L2 Fr Op
end Lib
namespace Op
open Fr Lib
theorem rat_cancel {x y b : Rat} (hb : b ≠ 0) (h : b * x = b * y) : x = y := by
  have h1 : x * b / b = x := Rat.mul_div_cancel hb
  have h2 : y * b / b = y := Rat.mul_div_cancel hb
  rw [← h1, ← h2, Rat.mul_comm x, Rat.mul_comm y, h]
end Op
namespace Lib
open PySem L2 Fr Op
theorem ne_frG {K : PySem.W.Frag} {H : Hp} {x y : V} {p q : Rat} {σ : List (Option V)} {Q : VK} (hx : DV K H x (frD p)) (hy : DV K H y (frD q)) (k : Q (.bl (!decide (p = q))) H) : tC y σ H (fun y H2 => rNeD K x y H2 Q) := ne_frD hx hy k
def RInv : List PyData → PyData → Prop := fun ds d => ∃ q, ds = [frD q] ∧ Sm q ∧ q ≠ 0 ∧ d = frD (1 / q)
theorem div_int {t b : Int} (hb : b ≠ 0) : Rat.divInt t b * (b : Rat) = (t : Rat) := by
  rw [Rat.divInt_eq_div]
  exact Rat.div_mul_cancel (int_nz hb)
theorem inv_rat {q : Rat} {s : Int} (hq : q ≠ 0) (hs : s * q.num = (q.num.natAbs : Int)) : Rat.divInt ((q.den : Int) * s) (q.num.natAbs : Int) = 1 / q := by
  have hn : q.num ≠ 0 := fun z => hq (Rat.num_eq_zero.mp z)
  have h0 : (q.num.natAbs : Int) ≠ 0 := by omega
  have e1 := div_int (t := (q.den : Int) * s) h0
  have e2 := mul_den q
  generalize Rat.divInt ((q.den : Int) * s) (q.num.natAbs : Int) = x at e1
  have hs' : (s : Rat) * (q.num : Rat) = ((q.num.natAbs : Int) : Rat) := by rw [← Rat.intCast_mul, hs]
  have hd : ((q.den : Int) : Rat) ≠ 0 := int_nz (by have := q.den_nz; omega)
  have hx : x * q = 1 := by
    refine rat_cancel (int_nz h0) (rat_cancel hd ?_)
    have h3 : ((q.den : Int) : Rat) * (((q.num.natAbs : Int) : Rat) * (x * q)) = (x * ((q.num.natAbs : Int) : Rat)) * (q * ((q.den : Int) : Rat)) := by grind
    rw [h3, e1, e2, Rat.intCast_mul]
    have h4 : ((q.den : Int) : Rat) * (s : Rat) * (q.num : Rat) = ((q.den : Int) : Rat) * ((s : Rat) * (q.num : Rat)) := by grind
    rw [h4, hs', Rat.mul_one]
  have h5 : x * q / q = x := Rat.mul_div_cancel hq
  rw [hx] at h5
  exact h5.symm
theorem bd_inv {q : Rat} {n : Nat} (b : Bd n q) (hq : q ≠ 0) : Bd (n + 1) (1 / q) := ((bd_one 1 (by decide)).div b hq).mono (by omega)
end Lib
namespace Lib
open PySem L2 Fr Op
end Lib
namespace L2
open PySem PySem.Spec PyProof.Rows PySem.Builtin
end L2
namespace Lib
open PySem L2 Fr Op
end Lib
namespace L2
open PySem PySem.Spec PyProof.Rows
end L2
namespace Lib
open PySem L2 Fr Op
def noTab (d : PyData) : Prop := isTupD d = false ∨ ∃ ds, d = .tuple ds ∧ (ds.length ≠ 4 ∨ (ds.length = 4 ∧ ds.all ratD = false))
def badT (d : PyData) : Prop := noTab d ∨ ∃ t n, d = tabD t ∧ Tb n t ∧ n ≤ 1900 ∧ t.det ≠ 1
def spIsTX (K : PySem.W.Frag) : Sp := fun vs H Q _ => ∃ v d, vs = [v] ∧ DV K H v d ∧ ((∃ t n, d = tabD t ∧ Tb n t ∧ n ≤ 1900 ∧ ∀ H', Same H H' → Q (.bl (decide (t.det = 1))) H') ∨ (noTab d ∧ ∀ H', Same H H' → Q (.bl false) H'))
end Lib
namespace L2
open PySem PySem.Spec PyProof.Rows
end L2
namespace Lib
open PySem L2 Fr Op
end Lib
namespace L2
open PySem PySem.Spec PyProof.Rows
end L2
namespace L2
open PySem PySem.Spec PyProof.Rows PySem.Builtin
open PySem.AutoSeq1 (wpAny_loadPart')
end L2
namespace L2
open PySem PySem.Spec PySem.Calls PyProof.Rows PySem.W Builtin Builtin.ObjectAttr
abbrev bmVE : List Value := [.type "ValueError", .type "Exception", .type "BaseException", .type "object"]
structure ExcI (K : PySem.W.Frag) (C CB fI : Addr) : Prop where
  ob : ∃ nm q N bs sn sub ab col dd k0 k1 k2 k3 k5, K.lookup C = some (excClassObj nm q C N bs (.ref CB :: bmVE) true sn sub ab col dd k0 k1 k2 k3 k5 "ValueError.__new__")
  cb : PySem.W.excIn K CB bmVE "ValueError.__new__" = true
  it : PySem.W.findIn K (.ref C) "__init__" = some (some (.ref fI))
  kp : PySem.W.keepIn K (.ref C) = true
  hm : PySem.W.mroIn K C (.type "object") = some true
  hd : PySem.W.hasDictIn K C = true
  fn : PySem.W.typeIn K (.ref fI) = some (.type "function")
  sa : PySem.W.findIn K (.ref C) "__setattr__" = some (some (.builtin "object.__setattr__"))
  na : PySem.W.findIn K (.ref C) "at" = some none
  rd : PySem.W.readsIn K CB (.type "type") = true
  fc : PySem.W.findCls K (.ref CB) (.type "type") "__init__" = some (.val (.builtin "ValueError.__init__"))
  sg : PySem.W.specialIn K (.ref CB) "__getattribute__" = some (some (.builtin "type.__getattribute__"))
theorem ExcI.obj {K : PySem.W.Frag} {C CB fI : Addr} {h : Heap} (O : ExcI K C CB fI) (X : K.In h) :
    ∃ nm q N bs sn sub ab col dd k0 k1 k2 k3 k5, h.get? C = some (excClassObj nm q C N bs (.ref CB :: bmVE) true sn sub ab col dd k0 k1 k2 k3 k5 "ValueError.__new__") ∧ OwnTail h bmVE (.ref CB :: bmVE) := by
  obtain ⟨nm, q, N, bs, sn, sub, ab, col, dd, k0, k1, k2, k3, k5, l⟩ := O.ob
  obtain ⟨bm, N', nm', qn', bs', hdct', sn', sub', ab', col', dd', a0, a1, a2, a3, a5, mN, hC, hN, hni, TL⟩ := exc_obj X O.cb
  exact ⟨nm, q, N, bs, sn, sub, ab, col, dd, k0, k1, k2, k3, k5, X _ _ l, .own hC hN hni .base⟩
abbrev tupO (vs : List Value) : Obj := { cls := .type "tuple", data := .seq vs.toArray }
abbrev excN (C t : Addr) : Obj := { cls := .ref C, data := .fields #[.ref t, .none, .none, .none, .bool false, .none] }
section
variable {prog : Program} {w : World} {A : Around} {E : Value → Shared → Prop} {h : Heap} {g : Array GenState} {d : Drawn} {t : Nat} {os : OsState} {K : PySem.W.Frag} {C CB fI : Addr}
theorem tcall_excI {rest : List Value} {Q : Fin → Shared → Prop} (X : K.In h) (O : ExcI K C CB fI)
    (hq : wpAny (model prog w) A (call (.ref fI) (.ref (h.objs.size + 1) :: rest)) (fun r s' => r = .none ∧ Q (.done (.ret (.ref (h.objs.size + 1)))) s') E ⟨(h.push (tupO rest)).push (excN C h.objs.size), g, d, t, os⟩) (hrest : rest.length ≤ sizeLine) :
    wpAny (model prog w) A (Builtin.«type.__call__» ⟨.ref C :: rest, []⟩) Q E ⟨h, g, d, t, os⟩ := by
  obtain ⟨nm, q, N, bs, sn, sub, ab, col, dd, k0, k1, k2, k3, k5, hC, T⟩ := O.obj X
  have kk : ∀ b o, h.get? b = some o → ((h.push (tupO rest)).push (excN C h.objs.size)).get? b = some o := fun b o e => Heap.get?_push_of_some _ (Heap.get?_push_of_some _ e)
  have X1 := X.keeps kk
  have hC1 := kk _ _ hC
  have hx : ((h.push (tupO rest)).push (excN C h.objs.size)).get? (h.objs.size + 1) = some (excN C h.objs.size) := by heap_get
  have hcC : (Value.ref C :: (.ref CB :: bmVE)).contains (.ref C) = true := by simp
  repeat (first | with_reducible refine wpAny_loadPart_at hC ?_ | with_reducible refine wpAny_madeBy_exc hC ?_ | wp_step)
  refine codeAny_call_builtin_code (Code.quiet_builtin _ F.excBase_ValueError.quiet) (wpAny_check_new_subT F.excBase_ValueError T hC (codeAny_exc_new_subT F.excBase_ValueError T hC ?_ hrest))
  show wpAny _ _ _ _ _ _; unfold isInstance
  repeat (first | with_reducible refine wpAny_loadPart_at hx ?_ | (with_reducible refine wpAny_isSubtype_exc hC1 ?_; rw [hcC]) | wp_step)
  show wpAny _ _ (typeLookup (.ref C) _) _ _ _; refine (looks_findIn X1 O.it).at (wpAny_holding (wpAny_bind ((bind_fn X1 _ O.fn).at ?_)))
  refine wpAny_bind (wpAny_mono hq (fun r s' ⟨e, z⟩ => ?_) fun _ _ x => x)
  subst e
  wp_walk
  exact z
theorem call_excI {rest : List Value} {Q : Value → Shared → Prop} (X : K.In h) (O : ExcI K C CB fI)
    (hq : wpAny (model prog w) (A.under (.builtin "type.__call__" ⟨.ref C :: rest, []⟩)) (call (.ref fI) (.ref (h.objs.size + 1) :: rest)) (fun r s' => r = .none ∧ Q (.ref (h.objs.size + 1)) s') E ⟨(h.push (tupO rest)).push (excN C h.objs.size), g, d, t, os⟩) (hrest : rest.length ≤ sizeLine) :
    wpAny (model prog w) A (call (.ref C) rest) Q E ⟨h, g, d, t, os⟩ := by
  obtain ⟨nm, q, N, bs, sn, sub, ab, col, dd, k0, k1, k2, k3, k5, hC, T⟩ := O.obj X
  have l1 := tc_lookup
  have l2 := tc_bind (.ref C)
  have l3 : (⟨h, g, d, t, os⟩ : Shared).TypeIs (.ref C) "type" := ⟨_, hC, rfl⟩
  refine wpAny_call (codeAny_of_tree ?_)
  show wpAny _ _ (callAny (.ref C) _) _ _ _
  repeat (any_goals (first | assumption | with_reducible refine wpAny_loadPart_at hC ?_ | wp_step))
  exact ⟨rfl, codeAny_call_builtin_at (Code.quiet_builtin _ (by decide +kernel)) entry_typeCall (wpAny_check_type_call_sub hC (tcall_excI X O hq hrest))⟩
theorem raise_obj {s : Shared} {env : Env} {x : Sem Value} {Q : Flow → Shared → Prop} (hh : A.handled = none)
    (hx : wpAny (model prog w) A x (fun v s₁ => ∃ e t od sl, v = .ref e ∧ K.In s₁.heap ∧ ExcI K C CB fI ∧ s₁.heap.get? e = some ⟨.ref C, od, .fields #[.ref t, .none, .none, .none, .bool false, .none], sl⟩ ∧ E (.ref e) s₁) E s) : wpAny (model prog w) A (raiseStmt env (some x) none) Q E s := by
  unfold raiseStmt
  refine wpAny_bind (wpAny_mono hx (fun v s₁ ⟨e, t0, od, sl, ev, X, O, he, z⟩ => ?_) fun _ _ x => x)
  subst ev
  obtain ⟨nm, q, N, bs, sn, sub, ab, col, dd, k0, k1, k2, k3, k5, hC, T⟩ := O.obj X
  have hcB : (Value.ref C :: (.ref CB :: bmVE)).contains (.type "BaseException") = true := by rw [List.contains_cons, T.hasType (X := "BaseException") (b := true) (by decide +kernel), Bool.or_true]
  obtain ⟨hp, g, d, tk, os⟩ := s₁
  repeat (first | with_reducible refine wpAny_loadPart_at he ?_ | with_reducible refine wpAny_loadPart_at hC ?_ | (with_reducible refine wpAny_isSubtype_exc hC ?_; rw [hcB]) | wp_step)
  exact wpAny_raiseNew_none hh z
abbrev excB (C t : Addr) (od : Option Addr) (sl : Array (Option Value)) : Obj := ⟨.ref C, od, .fields #[.ref t, .none, .none, .none, .bool false, .none], sl⟩
theorem binit_run {e t0 : Addr} {u : Value} {od : Option Addr} {sl : Array (Option Value)} {Q : Value → Shared → Prop} (X : K.In h) (O : ExcI K C CB fI) (he : h.get? e = some (excB C t0 od sl))
    (hq : ∀ h' t1, h'.get? e = some (excB C t1 od sl) → (∀ b o, b ≠ e → h.get? b = some o → h'.get? b = some o) → Q .none ⟨h', g, d, t, os⟩) :
    wpAny (model prog w) A (call (.builtin "ValueError.__init__") [.ref e, u]) Q E ⟨h, g, d, t, os⟩ := by
  obtain ⟨nm, q, N, bs, sn, sub, ab, col, dd, k0, k1, k2, k3, k5, hC, T⟩ := O.obj X
  refine wpAny_call (codeAny_call_builtin F.excBase_ValueError.init.plain F.excBase_ValueError.initEntry (wpAny_check_init_subT F.excBase_ValueError T hC he rfl ?_))
  have he1 : (h.push (tupO [u])).get? e = some (excB C t0 od sl) := Heap.get?_push_of_some _ he
  wp_walk
  refine hq _ h.objs.size ?_ fun b o n z => ?_
  · rw [Heap.get?_update_self _ he1 rfl]; rfl
  · rw [Heap.get?_update_other _ _ (Ne.symm n)]; exact Heap.get?_push_of_some _ z
theorem xset_run {e t0 : Addr} {u : Value} {sl : Array (Option Value)} {Q : Unit → Shared → Prop} (X : K.In h) (O : ExcI K C CB fI) (he : h.get? e = some (excB C t0 none sl))
    (hq : ∀ h', h'.Ns1 h.objs.size (fun y => if y = "at" then some u else none) → h'.get? e = some (excB C t0 (some h.objs.size) sl) → (∀ b o, b ≠ e → h.get? b = some o → h'.get? b = some o) → Q () ⟨h', g, d, t + 2, os⟩) :
    wpAny (model prog w) A (setAttr (.ref e) "at" u) Q E ⟨h, g, d, t, os⟩ := by
  obtain ⟨nm, q, N, bs, sn, sub, ab, col, dd, k0, k1, k2, k3, k5, hC, T⟩ := O.obj X
  have J : InstAt h e (excB C t0 none sl) C none := ⟨he, rfl, rfl, trivial⟩
  have SF := PySem.F.store_object
  have LT := J.type (M := model prog w)
  have sb : Looks (model prog w) h (isInstance (.ref e) (.type "object")) true := LT.andThen (looks_mroIn X O.hm)
  have LF := looks_findIn (M := model prog w) X O.na
  refine set_plain (s := ⟨h, g, d, t, os⟩) X J O.sa (codeAny_call_builtin SF.slot.plain SF.entry (@check_slot (model prog w) _ _ ⟨h, g, d, t + 1, os⟩ "object.__setattr__" "object" "__setattr__" (.ref e) [.str "at" t, u] [] _ SF.kind SF.split sb (SF.args (.ref e) (.str "at" t) u) ?_))
  rw [osa_eq, refuse_eq]; refine wpAny_bind (wpAny_bind (LT.at (wpAny_bind (wpAny_mroOf_exc hC ?_))))
  rw [refuseLoop_ref, refuseLoop_ref, F.store_ValueError.passes]
  refine wpAny_pure (wpAny_bind (LT.at (wpAny_bind (LF.at (wpAny_bind (wpAny_pure ?_))))))
  have hes : e ≠ h.objs.size := Nat.ne_of_lt (Heap.lt_size he)
  have he1 : (h.push { cls := .type "dict", data := .dict #[] }).get? e = some (excB C t0 none sl) := Heap.get?_push_of_some _ he
  unfold storeInOwnDict ownDictForStores instanceDict
  iterate 14 (first | with_reducible refine wpAny_loadPart_at he ?_ | with_reducible refine wpAny_loadPart_at hC ?_ | wp_step)
  dsimp only
  refine wpAny_bind (wpAny_alloc' (wpAny_bind (wpAny_update' he1 (wpAny_pure ?_))))
  have g1 : ((h.push { cls := .type "dict", data := .dict #[] }).update e fun o => { cls := o.cls, dict := some h.objs.size, data := o.data, slots := o.slots }).get? h.objs.size = some { cls := .type "dict", data := .dict #[] } :=
    (Heap.get?_update_ne _ _ _ _ hes.symm).trans (Heap.get?_push_at rfl rfl)
  have g2 : ((h.push { cls := .type "dict", data := .dict #[] }).update e fun o => { cls := o.cls, dict := some h.objs.size, data := o.data, slots := o.slots }).get? e = some (excB C t0 (some h.objs.size) sl) := Heap.get?_update_self _ he1 rfl
  have g3 : ∀ b o, b ≠ e → h.get? b = some o → ((h.push { cls := .type "dict", data := .dict #[] }).update e fun o => { cls := o.cls, dict := some h.objs.size, data := o.data, slots := o.slots }).get? b = some o := fun b o n z => (Heap.get?_update_ne _ _ _ _ n).trans (Heap.get?_push_of_some _ z)
  generalize ((h.push { cls := .type "dict", data := .dict #[] }).update e fun o => { cls := o.cls, dict := some h.objs.size, data := o.data, slots := o.slots }) = hm at g1 g2 g3 ⊢
  have n1 : hm.Ns h.objs.size (fun _ => none) := ⟨_, #[], _, g1, rfl, (fun x hx => absurd hx (by simp)), fun _ => rfl⟩
  show wpAny _ _ (storeInDict h.objs.size (.str "at" t) "at" u) _ _ _
  unfold storeInDict newKeyGuard; refine wpAny_bind (wpAny_pure (wpAny_bind (wpAny_nsSet1 (Heap.Ns1.of_empty n1) fun h' n2 sb2 => ?_)))
  obtain ⟨oD, eD, pD, z1, z2, z3⟩ := n2.count (Within.cons "at" u Within.nil)
  refine wpAny_bind (wpAny_lookBehind z1 (by rw [z2]; exact pastItsLine_dict (Nat.le_trans z3 (by decide))) (wpAny_pure ?_))
  exact hq h' n2 ((sb2.2 _ hes).trans g2) fun b o n z => (sb2.2 b (Nat.ne_of_lt (Heap.lt_size z))).trans (g3 b o n z)
end
end L2
namespace L2
open PySem PySem.Spec PySem.Calls PyProof.Rows PySem.W Builtin Builtin.ObjectAttr
def XN (e C : Addr) (d : Option Addr) (h : Heap) : Prop := ∃ t sl, h.get? e = some (excB C t d sl)
abbrev xN (e C : Addr) (d : Option Addr) : HO := .ext (XN e C d)
theorem XN.stay {e C : Addr} {d : Option Addr} {h1 h2 : Heap} (x : XN e C d h1) (k : ∀ o, h1.get? e = some o → h2.get? e = some o) : XN e C d h2 := let ⟨t, sl, z⟩ := x; ⟨t, sl, k _ z⟩
theorem XN.ok {P : Program} {w : World} {H : Hp} {h : Heap} {e C : Addr} {d : Option Addr} (x : XN e C d h) : ObjOk P w H h e (xN e C d) :=
  let ⟨_, _, z⟩ := x; ⟨x, ⟨_, z⟩, fun _ _ y k => y.stay k⟩
section
variable {X : Cx} {C CB fI : Addr} {nb : Str} {e1 o value : Expr} {es : List Expr} {t : TA} {ta tv : TE} {np apos cpos epos pos pos' : Pos}
def sBinit (C : Addr) (t : TA) : TS := fun D σ H => t σ H fun vs H1 => ∃ e v d, vs = [.ref e, v] ∧ H1 e = some (xN e C d) ∧ D.nx σ H1
theorem ps_binit {pl : Sem Bool} (O : ExcI X.K C CB fI) (hm : X.mg nb = some (.ref CB)) (ha : PA X (e1 :: es) t) (hg : Gl X nb := by rfl) (hdb : (nb == ("__debug__" : Str)) = false := by decide)
    (he : starEach (e1 :: es) X.env = (false, eval e1 X.env) :: starEach es X.env := by rfl) (hpl : (backTo cpos (starEach es X.env)).any (·.1) = false := by rfl)
    (hsw : swapsWith (.Call (.Attribute (.Name nb np) "__init__" apos) (e1 :: es) [] cpos) none epos.line X.env = pure false := by rfl)
    (ht : eval (.Call (.Attribute (.Name nb np) "__init__" apos) (e1 :: es) [] cpos) X.env = (do
      let ov ← eval (.Name nb np) X.env
      standAt apos.atName
      let (f, first) ← holding [ov] (getMethod ov "__init__" pl)
      callWith cpos f first (backTo cpos (starEach (e1 :: es) X.env)) (backToKw cpos (keywordEach [] X.env))) := by rfl) :
    PS X (.Expr (.Call (.Attribute (.Name nb np) "__init__" apos) (e1 :: es) [] cpos) epos) (sBinit C t) := by
  intro pins s σ H D I h
  refine wpAny_Expr_any (PySem.W.methodCall_KW (pl := pl) (ld_glob I hg hm ?_ hdb) ht) I.quiet hsw
  refine method_cls I.kIn O.sg (cls_value I.kIn O.rd O.fc rfl ?_)
  have hA := ha cpos pins _ σ H _ (I.tok (s.toks + 1)) h
  rw [he] at hA ⊢
  refine Calls.callWith_builtin (by show (false || (backTo cpos (starEach es X.env)).any (·.1)) = false; rw [hpl] <;> rfl) (Calls.evalArgs_plain ?_)
  refine thn hA fun us s2 ⟨vs, H2, I2, r, e, v, d, ev, hx, q⟩ => ?_
  subst ev
  obtain ⟨u0, u, rfl, r0, ru⟩ := vals2 r
  cases (show u0 = Value.ref e from r0)
  obtain ⟨⟨t0, sl, ho⟩, _, _⟩ := (show ObjOk X.prog X.w H2 s2.heap e (xN e C d) from I2.hok e _ hx)
  obtain ⟨hh, g, dr, tk, os⟩ := s2
  refine binit_run I2.kIn O ho fun h' t1 he' k => ?_
  have J := I2.write (x := e) (e := e) (o := xN e C d) (t' := tk) (by rw [hx]; exact True.intro) (.inl rfl) (fun b o n => k b o n) ⟨_, he'⟩ (XN.ok ⟨t1, sl, he'⟩)
  have e2 : upd H2 e (xN e C d) = H2 := by
    funext b
    by_cases z : b = e
    · subst z; rw [upd_same, hx]
    · rw [upd_ne z]
  rw [e2] at J
  exact ⟨σ, H2, J, q⟩
theorem xset_ok {pins : List (Addr × Obj)} {σ : St} {H : Hp} {s : Shared} {A : Around} {E : Value → Shared → Prop} {y : V} {u : Value} {Q : Unit → Shared → Prop} {e : Addr} (I : Inv X pins σ H s) (O : ExcI X.K C CB fI) (hx : H e = some (xN e C none)) (ry : RelV y u)
    (h : ∀ dx s', H dx = none → dx ≠ e → Inv X pins σ (upd (upd H dx (.xd [("at", y)])) e (xN e C (some dx))) s' → Q () s') : wpAny (model X.prog X.w) A (setAttr (.ref e) "at" u) Q E s := by
  obtain ⟨⟨t0, sl, ho⟩, _, _⟩ := (show ObjOk X.prog X.w H s.heap e (xN e C none) from I.hok e _ hx)
  obtain ⟨hh, g, dr, tk, os⟩ := s
  refine xset_run I.kIn O ho fun h' n1 he' k => ?_
  have ne : e ≠ hh.objs.size := Nat.ne_of_lt (Heap.lt_size ho)
  obtain ⟨oD, es, ep, hD, dD, rD⟩ := id n1
  have fD : oD.isFreed = false := (Heap.get?_some_iff.mp hD).2
  have hn : H hh.objs.size = none := I.hok.fresh (Nat.le_refl _)
  have r1 : ∀ f, RelO (List.lookup f [(("at" : Str), y)]) (if f = "at" then some u else none) := fun f => by
    by_cases z : f = "at"
    · subst z; rw [if_pos rfl]; exact ry
    · rw [if_neg z, List.lookup_cons, show (f == ("at" : Str)) = false from beq_false_of_ne z]; exact True.intro
  have J1 := I.laid (a := hh.objs.size) (o := .xd [("at", y)]) (h' := hh.push oD) (t' := tk + 2) (fun b o z => Heap.get?_push_of_some _ z) (Nat.le_refl _) ⟨_, ⟨oD, es, ep, Heap.get?_push_size hh fD, dD, rD⟩, r1⟩
  have J2 := J1.write (x := e) (e := e) (o := xN e C (some hh.objs.size)) (h' := h') (t' := tk + 2) (by rw [upd_ne ne, hx]; exact True.intro) (.inl rfl) (fun b o n z => ?_) ⟨_, he'⟩ (XN.ok ⟨t0, sl, he'⟩)
  · exact h hh.objs.size _ hn (Ne.symm ne) J2
  · rcases Heap.get?_push_cases z with ⟨zb, zo⟩ | z
    · rw [zb, zo]; exact hD
    · exact k b o n z
def sSetAt (C : Addr) (ta tv : TE) : TS := fun D σ H => tv σ H fun y H1 => ta σ H1 fun x H2 => ∃ e, x = .ref e ∧ H2 e = some (xN e C none) ∧ ∀ dx, H2 dx = none → dx ≠ e → D.nx σ (upd (upd H2 dx (.xd [("at", y)])) e (xN e C (some dx)))
theorem ps_setat (O : ExcI X.K C CB fI) (ha : PE X o ta) (hv : PE X value tv) (hs : swapsWith value (some (.Attribute o "at" pos')) pos.line X.env = pure false := by rfl) : PS X (.Assign [.Attribute o "at" pos'] value pos) (sSetAt C ta tv) := by
  intro pins s σ H D I h
  refine plainObj_wpAny_Assign_Attribute (thn (hv pins s σ H _ I h) fun u s1 ⟨y, H1, I1, ry, q⟩ => thn (ha pins s1 σ H1 _ I1 q) fun ov s2 ⟨x, H2, I2, rx, e, ex, hx, q2⟩ => ?_) hs
  subst ex
  obtain rfl : ov = Value.ref e := rx
  exact xset_ok I2 O hx ry fun dx s3 n1 n2 J => ⟨σ, _, J, q2 dx n1 n2⟩
end
def spXI (C : Addr) : Sp := fun vs H Q _ => ∃ e v, vs = [.ref e, v] ∧ H e = some (xN e C none) ∧ ∀ dx, H dx = none → dx ≠ e → Q .non (upd (upd H dx (.xd [("at", v)])) e (xN e C (some dx)))
structure XMk (P : Program) (w : World) (K : PySem.W.Frag) (mg : Str → Option Value) (base : Heap) (k : Nat) (x : Str) (C : Addr) : Prop where
  ex : ∃ (CB fI : Addr) (fd : FuncData), FnB P w K mg base true k fI fd ["self", "at"] (spXI C) ∧ ExcI K C CB fI ∧ Binds K fd ["self", "at"] []
  mg : mg x = some (.ref C)
structure XFn (K : PySem.W.Frag) (mg : Str → Option Value) (x : Str) (C CB : Addr) (qual : Str) (st : Stmt) : Prop where
  ex : ∃ (f : Addr) (fd : FuncData), Fun K "__init__" qual st f fd ∧ ExcI K C CB f
  mg : mg x = some (.ref C)
theorem XFn.xmk {P : Program} {w : World} {K : PySem.W.Frag} {mg : Str → Option Value} {base : Heap} {x : Str} {C CB : Addr} {qual : Str} {st : Stmt} {N : List Str} {k : Nat} (T : XFn K mg x C CB qual st) (S : FnScope N ["self", "at"] (defScope st))
    (hb : ∀ (kV doc pm : Value) (an : Option Addr) (cdv ct : Value) (us : List Value), us.length = (["self", "at"] : List Str).length → bindArgs (PySem.W.fnOf "__init__" qual (defArgs st) (defBody st) (defScope st) .none kV doc pm an cdv ct) ⟨us, []⟩ = pure ((["self", "at"] : List Str).zip us))
    (hbody : ∀ (fI : Addr), ExcI K C CB fI → ∀ (f : Addr) (cdv : Value) (A : Around) (outer : List Env) (s : Shared) (H : Hp) (vs : List V) (Q : VK) (E : XK), RoomB true k (A.deeper (envOfC qual (defScope st) s.heap.objs.size f cdv)) → spXI C vs H Q E →
      ∃ t, PSs (cxB true P w K mg base N qual (defScope st) f cdv A outer s H E).nox (defBody st) t ∧ t { nx := fun _ H' => Q .non H', rt := Q } (start N vs) H) : XMk P w K mg base (k + 1) x C := by
  obtain ⟨f, fd, F, hm⟩ := T.ex
  obtain ⟨oc, od, kV, doc, pm, an, cdv, ct, osl, rfl, l, cd⟩ := id F.ex
  refine ⟨⟨CB, f, _, fnB_of l cd S (fun vs H Q E h => by obtain ⟨_, _, rfl, _⟩ := h; rfl) fun A outer s H vs Q E hr h => ?_, hm, F.binds hb⟩, T.mg⟩
  obtain ⟨t, h1, h2⟩ := hbody f hm f cdv A outer s H vs Q E hr h
  exact ⟨t, h1.nox, h2⟩
def delH (H : Hp) (e : Addr) : Hp := fun b => if b = e then none else H b
theorem delH_ne {H : Hp} {e b : Addr} (n : b ≠ e) : delH H e b = H b := if_neg n
theorem delH_same {H : Hp} {e : Addr} : delH H e e = none := if_pos rfl
section
variable {X : Cx} {C : Addr} {x : Str} {e₀ : Expr} {t : TA} {np cpos pos : Pos} {k : Nat}
theorem clo_del {E : XK} (Bd : BodyCx X E) {pins : List (Addr × Obj)} {σ : St} {H : Hp} {s : Shared} {e : Addr} {φ : Heap → Prop} (I : Inv X pins σ H s) (hx : H e = some (.ext φ)) (ne0 : X.s₀.heap.get? e = none) (nL : e ∉ frs X.stack) {h2 : Heap} (up : s.heap.UpToSlots h2) (h'' : Heap)
    (st : (PySem.W.hideAll s.heap (e :: frs X.stack)).StaysIn h'') (up2 : h2.UpToSlots h'') : Un (frs X.outer) [] X.H₀ (delH H e) X.s₀.heap h'' ∧ HOk X.prog X.w (delH H e) h'' := by
  have inB : ∀ b o, s.heap.get? b = some o → b ≠ e → b ∉ frs X.stack → h''.get? b = some o := fun b o q n m => st b o (PySem.W.hideAll_get _ q (by simp [n, m]))
  have sl : ∀ b o, s.heap.get? b = some o → b ∈ frs X.stack → ∃ sl, h''.get? b = some { o with slots := sl } := fun b o q m => by
    obtain ⟨_, o', ho', hnf⟩ := I.stack.mem m
    rw [q] at ho'; cases ho'
    exact (up.trans up2) b o q hnf
  have nx : ∀ b : Addr, b ∉ X.ex := fun b z => by rw [Bd.ex] at z; cases z
  have neL : ∀ b o, X.s₀.heap.get? b = some o → b ≠ X.env.locals := fun b o q => Nat.ne_of_lt (Nat.lt_of_lt_of_le (Heap.lt_size q) I.ok.above)
  have nee : ∀ b o, X.s₀.heap.get? b = some o → b ≠ e := fun b o q z => by rw [z, ne0] at q; cases q
  have any : ∀ b o, s.heap.get? b = some o → b ≠ e → ∃ o', h''.get? b = some o' := fun b o q n => by
    by_cases m : b ∈ frs X.stack
    · obtain ⟨z, y⟩ := sl b o q m
      exact ⟨_, y⟩
    · exact ⟨_, inB b o q n m⟩
  have nt : ∀ b o', H b = some o' → (∀ ψ, o' ≠ .ext ψ) → b ≠ e := fun b o' q n z => by rw [z, hx] at q; exact n φ (Option.some.inj q).symm
  refine ⟨⟨fun b o q n hb _ => ?_, fun b o q n hb _ => ?_, fun b o q n _ => ?_, fun b o q _ => ?_, fun b xs q => ?_, fun b o y q => ?_, fun b ps q => ?_⟩, fun a o q => ?_⟩
  · exact inB b o (I.base.keep b o q n hb (nx b)) (nee b o q) fun m => (mem_stack Bd).mp m |>.elim (neL b o q) hb
  · obtain ⟨z, y⟩ := I.base.slot b o q n hb (nx b)
    exact sl b _ y ((mem_stack Bd).mpr (.inr hb)) |>.imp fun _ h => h
  · rw [delH_ne (nee b o q)]; exact I.base.free b o q n (nx b)
  · obtain ⟨o', y⟩ := I.base.there b o q (nx b)
    exact any b o' y (nee b o q)
  · have y := I.base.tups b xs q
    rw [delH_ne (nt b _ y (fun _ h => nomatch h))]; exact y
  · have y := I.base.frzs b o _ q
    rw [delH_ne (nt b _ y (fun _ h => nomatch h))]; exact y
  · obtain ⟨m, y⟩ := I.base.tbls b ps q
    exact ⟨m, by rw [delH_ne (nt b _ y (fun _ h => nomatch h))]; exact y⟩
  · have hae : a ≠ e := fun z => by rw [z, delH_same] at q; cases q
    rw [delH_ne hae] at q
    refine (I.hok a o q).stay (fun b u hc y => inB b u y ?_ fun m => ?_) (fun b y => by rw [delH_ne (nt b _ y (fun _ h => nomatch h))]; exact y) fun b xs y => by rw [delH_ne (nt b _ y (fun _ h => nomatch h))]; exact y
    · rcases hc with z | z
      · rw [z]; exact hae
      · exact nt b _ z (fun _ h => nomatch h)
    · have z := I.stkFree b m
      rcases hc with rfl | hc
      · rw [z] at q; cases q
      · rw [z] at hc; cases hc
def tRaiseI (E : XK) (C : Addr) (t : TA) : TS := fun _ σ H => t σ H fun vs H1 => ∃ v, vs = [v] ∧ ∀ dx, H1 dx = none → E (.ref C) (some dx) (upd H1 dx (.xd [("at", v)]))
theorem ps_raiseI {E : XK} (Bd : BodyCx X E) (hc : X.calm = true) (M : XMk X.prog X.w X.K X.mg X.base k x C) (hr : RoomB true (k + 1) X.A) (ha : PA X [e₀] t) (hg : Gl X x := by rfl) (hdb : (x == ("__debug__" : Str)) = false := by decide)
    (he : starEach [e₀] X.env = [(false, eval e₀ X.env)] := by rfl) :
    PS X (.Raise (some (.Call (.Name x np) [e₀] [] cpos)) none pos) (tRaiseI E C t) := by
  obtain ⟨CB, fI, fd, Fi, O, hb⟩ := M.ex
  intro pins s σ H D I h
  rw [arm_exec_Raise]
  have key : wpAny (model X.prog X.w) X.A (eval (.Call (.Name x np) [e₀] [] cpos) X.env) (fun v s₁ => ∃ e t od sl, v = .ref e ∧ X.K.In s₁.heap ∧ ExcI X.K C CB fI ∧ s₁.heap.get? e = some ⟨.ref C, od, .fields #[.ref t, .none, .none, .none, .bool false, .none], sl⟩ ∧ X.xe (.ref e) s₁) X.xe s := by
    refine wpAny_Call_Name_kw (ld_glob I hg M.mg ?_ hdb)
    refine PySem.W.callWith_K (h₀ := X.base) I.ok.mod.kin O.kp (thn (ha cpos pins s σ H _ I h) fun us s1 ⟨vs, H1, I1, r, v, ev, q⟩ => ⟨I1.kIn, ?_⟩) he rfl
    subst ev
    obtain ⟨u, rfl, ru⟩ := vals1 r
    have new0' := new0 I1 (fun b z => by rw [Bd.ex] at z; cases z) (a := s1.heap.objs.size + 1) (Heap.get?_none_of_le (Nat.le_succ _))
    obtain ⟨hh, g, dr, tk, os⟩ := s1
    refine call_excI I1.kIn O ?_ (by show 1 ≤ sizeLine; decide)
    have hx0 : ((hh.push (tupO [u])).push (excN C hh.objs.size)).get? (hh.objs.size + 1) = some (excB C hh.objs.size none #[]) := by heap_get
    have J0 := I1.kept (h' := hh.push (tupO [u])) (t' := tk) (fun b o z => Heap.get?_push_of_some _ z)
    have J : Inv X pins σ (upd H1 (hh.objs.size + 1) (xN (hh.objs.size + 1) C none)) ⟨(hh.push (tupO [u])).push (excN C hh.objs.size), g, dr, tk, os⟩ :=
      J0.laid (a := hh.objs.size + 1) (o := xN (hh.objs.size + 1) C none) (t' := tk) (fun b o z => Heap.get?_push_of_some _ z) (Nat.le_of_eq (Heap.size_push _ _)) (XN.ok ⟨_, _, hx0⟩)
    have he1 : H1 (hh.objs.size + 1) = none := I1.hok.fresh (Nat.le_succ _)
    have r2 : Vals [V.ref (hh.objs.size + 1), v] [Value.ref (hh.objs.size + 1), u] := .cons rfl (.cons ru .nil)
    have hl : ([Value.ref (hh.objs.size + 1), u] ++ ([] : List Value)).length = ["self", "at"].length := rfl
    refine wpAny_call (codeAny_mono (Fi.run _ X.stack _ _ ⟨[.ref (hh.objs.size + 1), u], []⟩ [.ref (hh.objs.size + 1), u] [.ref (hh.objs.size + 1), v]
      (fun v' H2 => v' = .non ∧ ∃ dx, H1 dx = none ∧ dx ≠ hh.objs.size + 1 ∧ H2 = upd (upd (upd H1 (hh.objs.size + 1) (xN (hh.objs.size + 1) C none)) dx (.xd [("at", v)])) (hh.objs.size + 1) (xN (hh.objs.size + 1) C (some dx))) E0 (hr.room.make C [u] []).b (J.env0.make C [u] []) (hb _ [.ref (hh.objs.size + 1), u] J.kIn hl) r2
      ⟨_, _, rfl, upd_same, fun dx n1 n2 => ⟨rfl, dx, by rw [upd_ne n2] at n1; exact n1, n2, rfl⟩⟩) fun r s' hq' => ?_)
    cases r with
    | error e =>
      obtain ⟨_, _, _, _, _, _, _, _, _, _, _, _, z⟩ := hq'
      exact z.elim
    | ok fl =>
      cases fl with
      | next => exact False.elim hq'
      | brk => exact False.elim hq'
      | cont => exact False.elim hq'
      | ret u' =>
        obtain ⟨v', H2, I2, rv, ev, dx, n1, n2, eH⟩ := J.after hq'
        subst ev
        refine ⟨rv, ?_⟩
        have hx2 : H2 (hh.objs.size + 1) = some (xN (hh.objs.size + 1) C (some dx)) := by rw [eH]; exact upd_same
        obtain ⟨⟨t1, sl1, ho1⟩, _, _⟩ := (show ObjOk X.prog X.w H2 s'.heap (hh.objs.size + 1) (xN (hh.objs.size + 1) C (some dx)) from I2.hok _ _ hx2)
        refine ⟨hh.objs.size + 1, t1, some dx, sl1, rfl, I2.kIn, O, ho1, ?_⟩
        have eD : delH H2 (hh.objs.size + 1) = upd H1 dx (.xd [("at", v)]) := by
          funext b
          by_cases z : b = hh.objs.size + 1
          · subst z; rw [delH_same, upd_ne (Ne.symm n2)]; exact he1.symm
          · rw [delH_ne z, eH, upd_ne z]
            by_cases z2 : b = dx
            · subst z2; rw [upd_same, upd_same]
            · rw [upd_ne z2, upd_ne z2, upd_ne z]
        have qE : E (.ref C) (some dx) (delH H2 (hh.objs.size + 1)) := by rw [eD]; exact q dx n1
        rw [Bd.xe]
        have hfr : X.A.frames = some (X.env :: X.outer) := by rw [← Bd.stk]; exact I.ok.frames
        have nS : hh.objs.size + 1 ∉ frs X.stack := fun m => by
          have := I2.stkFree _ m
          rw [hx2] at this; cases this
        have hin : ∀ env ∈ X.stack, ∀ b, env.frame = some b → b ∈ ((hh.objs.size + 1) :: frs X.stack) := fun env he b hb => List.mem_cons_of_mem _ (List.mem_filterMap.mpr ⟨env, he, hb⟩)
        have ff : s'.heap.FunFrames (PySem.W.hideAll s'.heap ((hh.objs.size + 1) :: frs X.stack)) (X.env :: X.outer) := by
          have z := PySem.W.funFrames_hide I2.stack hin
          rw [← Bd.stk]
          exact z
        refine leave_first (s := s') hfr Bd.fr (fun b o q => PySem.W.of_hideAll _ q) (PySem.W.hideAll_none _ (List.mem_cons_self ..)) ff ho1 rfl rfl ⟨_, rfl, .none⟩ fun h3 fly up => ?_
        exact ⟨_, C, some dx, delH H2 (hh.objs.size + 1), _, rfl, I2.os, I2.bare, fun h'' st up2 => clo_del Bd I2 hx2 new0' nS up h'' st up2, fly, delH_same, new0', qE⟩
  first
    | refine wpAny_bind (wpAny_standAt (raise_obj (K := X.K) (C := C) (CB := CB) (fI := fI) (I.ok.hd hc) (wpAny_bind (wpAny_mono key (fun v s₃ h₃ => wpAny_bind (wpAny_standAt (wpAny_pure h₃))) fun _ _ x => x))))
    | (simp only [evalOpt, Option.map]; refine wpAny_bind (wpAny_standAt (raise_obj (K := X.K) (C := C) (CB := CB) (fI := fI) (I.ok.hd hc) (wpAny_bind (wpAny_mono key (fun v s₃ h₃ => wpAny_bind (wpAny_standAt (wpAny_pure h₃))) fun _ _ x => x)))))
end
end L2
namespace L2
open PySem PySem.Spec PySem.Calls PyProof.Rows PySem.W Builtin Builtin.ObjectAttr
end L2
namespace L2
open PySem PySem.Spec PySem.Calls PyProof.Rows PySem.W
end L2
namespace Lib
open PySem L2 Fr Op
def atV : Option Nat → V
  | none => .non
  | some i => .int (i : Int)
def RaisedAt (H : Hp) (C : Addr) (o : Option Nat) (E : XK) : Prop := ∀ H' dx, Same H H' → H' dx = some (.xd [("at", atV o)]) → E (.ref C) (some dx) H'
end Lib
namespace Lib
open PySem L2 Fr Op
end Lib
namespace L2
open PySem PySem.Spec PyProof.Rows
end L2
namespace L2
open PySem PySem.Spec PyProof.Rows PySem.Builtin PySem.Builtin.Str
end L2
namespace Lib
open PySem L2 Fr Op
end Lib
namespace L2
open PySem PySem.Spec PyProof.Rows PySem.Builtin PySem.SeqAt
def rInD (K : PySem.W.Frag) (neg : Bool) : R2 := fun x y H Q => ∃ p xs dx ds, y = .ref p ∧ SqL K H p xs ∧ DV K H x dx ∧ DVs K H xs ds ∧ dx.canLay0 = true ∧ dx.depth ≤ 60 ∧ PyData.canLayAll0 ds = true ∧ Q (.bl (if neg then !ds.any (fun d => PyData.eqv d dx) else ds.any (fun d => PyData.eqv d dx))) H
theorem readsAll_get {h : Heap} : ∀ {us : List Value} {ds : List PyData} {as : List Addr}, ReadsAll h us ds as → ∀ u ∈ us, ∃ d as, d ∈ ds ∧ Reads h u d as
  | _, _, _, .nil, u, hu => nomatch hu
  | _, _, _, .cons r rs, u, hu => by
    rcases List.mem_cons.mp hu with rfl | hu
    · exact ⟨_, _, List.mem_cons_self, r⟩
    · obtain ⟨d, as, hd, hr⟩ := readsAll_get rs u hu
      exact ⟨d, as, List.mem_cons_of_mem _ hd, hr⟩
theorem canLay_mem : ∀ {ds : List PyData}, PyData.canLayAll0 ds = true → ∀ d ∈ ds, d.canLay0 = true
  | [], _, d, h => nomatch h
  | e :: ds, c, d, h => by
    rw [PyData.canLayAll0] at c
    rcases List.mem_cons.mp h with rfl | h
    · exact (Bool.and_eq_true_iff.mp c).1
    · exact canLay_mem (Bool.and_eq_true_iff.mp c).2 d h
noncomputable def eqAs (h : Heap) (dx : PyData) (u : Value) : Bool := @dite Bool (∃ d as, Reads h u d as ∧ d.canLay0 = true) (Classical.propDecidable _) (fun c => PyData.eqv (Classical.choose c) dx) (fun _ => false)
theorem eqAs_of {h : Heap} {dx d : PyData} {u : Value} {as : List Addr} (r : Reads h u d as) (c : d.canLay0 = true) : eqAs h dx u = PyData.eqv d dx := by
  unfold eqAs
  have e : ∃ d as, Reads h u d as ∧ d.canLay0 = true := ⟨d, as, r, c⟩
  rw [dif_pos e]
  obtain ⟨as', r', _⟩ := Classical.choose_spec e
  rw [← PySem.SeqAt.Reads.unique d _ u as as' c r r']
theorem any_eqAs {h : Heap} {dx : PyData} : ∀ {us : List Value} {ds : List PyData} {as : List Addr}, ReadsAll h us ds as → PyData.canLayAll0 ds = true → us.any (eqAs h dx) = ds.any (fun d => PyData.eqv d dx)
  | _, _, _, .nil, _ => rfl
  | _, _, _, .cons r rs, c => by
    rw [PyData.canLayAll0] at c
    rw [List.any_cons, List.any_cons, any_eqAs rs (Bool.and_eq_true_iff.mp c).2, eqAs_of r (Bool.and_eq_true_iff.mp c).1]
section
variable {X : Cx}
theorem op_inD (hu : X.A.units + 64 < cLine) : OpR X (compareOp .In) (rInD X.K false) := by
  intro pins s σ H x y v u Q I rx ry h
  obtain ⟨p, xs, dx, ds, rfl, hq, hx, hd, cx, dp, cs, q⟩ := h
  cases ry
  obtain ⟨its, r, pl, hz⟩ := I.list hq
  obtain ⟨a1, r1⟩ := hx.reads I cx rx
  obtain ⟨a2, r2⟩ := DVs.reads I hd cs r
  refine SeqAt.in_listAt (eqAs s.heap dx) pl.isList (fun w hw => ?_) ⟨.bl _, H, I, rfl, ?_⟩
  · obtain ⟨d, as, hd', hr⟩ := readsAll_get r2 w (by simpa using hw)
    rw [eqAs_of hr (canLay_mem cs d hd')]
    refine eqAt_reads d dx X.A.in1 s w v as a1 hr r1 (canLay_mem cs d hd') cx ?_
    have : X.A.in1.units = X.A.units + 1 := rfl
    have := Nat.min_le_right d.depth dx.depth
    omega
  · rw [show its.toArray.any (eqAs s.heap dx) = its.any (eqAs s.heap dx) by simp, any_eqAs r2 cs]
    exact q
end
end L2
namespace Op
open Fr
end Op
namespace Lib
open PySem L2 Fr Op
end Lib
namespace Op
open Fr
end Op
namespace Op
open Fr
end Op
namespace Op
open Fr
end Op
namespace Op
open Fr
end Op
namespace Op
open Fr
end Op
namespace Op
open Fr
end Op
namespace Op
open Fr
end Op
namespace Op
open Fr
end Op
namespace Op
open Fr
end Op
namespace Op
open Fr
end Op
namespace Lib
open PySem L2 Fr Op
end Lib
namespace Lib
open PySem L2 Fr Op
end Lib
namespace L2
open PySem PySem.Spec PyProof.Rows PySem.Builtin
end L2
namespace Lib
open PySem L2 Fr Op
end Lib
namespace L2
open PySem PySem.Spec PyProof.Rows PySem.Builtin
end L2
namespace Op
open Fr
end Op
namespace Lib
open PySem L2 Fr Op
end Lib
namespace Op
open Fr
end Op
namespace L2
open PySem PySem.Spec PyProof.Rows PySem.Builtin
theorem pairs_of : ∀ {ns : List Int} {us : List Value}, Vals (ns.map V.int) us → ∃ ps : List (Int × Tok), us = ps.map (fun p => Value.int p.1 p.2) ∧ ps.map (·.1) = ns
  | [], us, h => by
    cases h
    exact ⟨[], rfl, rfl⟩
  | n :: ns, us, h => by
    cases h with
    | cons r rr =>
      obtain ⟨t, rfl⟩ := r
      obtain ⟨ps, rfl, e⟩ := pairs_of rr
      exact ⟨(n, t) :: ps, rfl, by rw [List.map_cons, e]⟩
theorem best_le (bt : Nat → Nat → Bool) : ∀ k, argBest bt k ≤ k
  | 0 => Nat.le_refl _
  | k + 1 => by
    rw [argBest]
    split
    · exact Nat.le_refl _
    · exact Nat.le_succ_of_le (best_le bt k)
theorem best_min (g : Nat → Int) : ∀ k i, i ≤ k → g (argBest (fun i j => decide (g i < g j)) k) ≤ g i
  | 0, i, h => by
    have : i = 0 := by omega
    subst this
    exact Int.le_refl _
  | k + 1, i, h => by
    rw [argBest]
    split
    · rename_i c
      have c : g (k + 1) < g (argBest (fun i j => decide (g i < g j)) k) := of_decide_eq_true c
      by_cases e : i = k + 1
      · rw [e]; exact Int.le_refl _
      · have := best_min g k i (by omega); omega
    · rename_i c
      have c : ¬ g (k + 1) < g (argBest (fun i j => decide (g i < g j)) k) := fun z => c (decide_eq_true z)
      by_cases e : i = k + 1
      · rw [e]; omega
      · exact best_min g k i (by omega)
theorem num_at {ps : List (Int × Tok)} {i : Nat} (h : i < ps.length) : numAt ps.toArray i = (ps.map (·.1))[i]'(by simpa using h) := by
  unfold numAt
  simp [h]
section
variable {X : Cx}
theorem call_minL (hc : X.calm = true) : CallR X (.builtin "min") (fun xs H Q => ∃ l ns, xs = [.ref l] ∧ SqL X.K H l (ns.map V.int) ∧ ns ≠ [] ∧ ∀ m, m ∈ ns → (∀ a ∈ ns, m ≤ a) → Q (.int m) H) := by
  intro pins s σ H xs us Q I r h
  obtain ⟨l, ns, rfl, hl, hne, q⟩ := h
  obtain ⟨u, rfl, ru⟩ := vals1 r
  cases ru
  obtain ⟨its, rv, pl, hz⟩ := I.list hl
  obtain ⟨ps, rfl, ep⟩ := pairs_of rv
  have hpl : ps.length = ns.length := by rw [← ep, List.length_map]
  have pos : 0 < ps.length := by
    rw [hpl]
    exact List.length_pos_iff.mpr hne
  have hli : s.heap.IsList l (intItems ps.toArray) := by
    have := pl.isList
    unfold intItems
    rw [List.map_toArray]
    exact this
  refine min_intList (I.ok.hd hc) hli (by simpa using pos) fun v h' tk hv kp => ?_
  have hb := best_le (fun i j => decide (numAt ps.toArray i < numAt ps.toArray j)) (ps.toArray.size - 1)
  have hbm := best_min (numAt ps.toArray) (ps.toArray.size - 1)
  generalize argBest (fun i j => decide (numAt ps.toArray i < numAt ps.toArray j)) (ps.toArray.size - 1) = k at hv hb hbm
  have hk : k < ps.length := by
    rw [List.size_toArray] at hb
    omega
  have hv' : v = Value.int (ps[k]).1 (ps[k]).2 := by
    unfold intItems at hv
    simp [hk] at hv
    exact hv.symm
  have en : numAt ps.toArray k = (ps[k]).1 := by rw [num_at hk]; simp
  rw [hv']
  refine ⟨.int (ps[k]).1, H, I.kept kp, ⟨_, rfl⟩, q _ ?_ ?_⟩
  · rw [← ep]
    exact List.mem_map.mpr ⟨_, List.getElem_mem hk, rfl⟩
  · intro a ha
    rw [← ep] at ha
    obtain ⟨p, hp, rfl⟩ := List.mem_map.mp ha
    obtain ⟨i, hi, rfl⟩ := List.mem_iff_getElem.mp hp
    have := hbm i (by rw [List.size_toArray]; omega)
    rw [en, num_at hi] at this
    simpa using this
end
end L2
namespace Lib
open PySem L2 Fr Op
end Lib
namespace Op
open Fr
end Op
namespace Lib
open PySem L2 Fr Op
end Lib
namespace Lib
open PySem L2 Fr Op
end Lib
namespace L2
open PySem PySem.Spec PyProof.Rows PySem.Builtin PySem.Builtin.Str
theorem strs_of : ∀ {zs : List Str} {its : List Value}, Vals (zs.map V.str) its → ∃ l : List (Str × Tok), strValues l = its ∧ l.map (·.1) = zs
  | [], _, .nil => ⟨[], rfl, rfl⟩
  | z :: zs, _, .cons h r => by
    obtain ⟨t, rfl⟩ := h
    obtain ⟨l, h1, h2⟩ := strs_of r
    exact ⟨(z, t) :: l, by show _ :: strValues l = _; rw [h1], by show z :: _ = _; rw [h2]⟩
theorem strsAre_of : ∀ {zs : List Str} {its : List Value}, Vals (zs.map V.str) its → StrsAre its zs
  | [], _, .nil => .nil
  | z :: zs, _, .cons h r => by
    obtain ⟨t, rfl⟩ := h
    exact .cons z t (strsAre_of r)
def rJoin : V → List V → Hp → VK → Prop := fun x vs H Q => ∃ (sep : Str) (l : Addr) (zs : List Str), x = .str sep ∧ vs = [.ref l] ∧ H l = some (.lst (zs.map V.str)) ∧ JoinOk sep zs = true ∧ Q (.str (Txt.join sep zs)) H
theorem mt_join {X : Cx} : MtM X "str.join" rJoin := by
  intro pins s σ H x vs v us Q I rx rv h
  obtain ⟨sep, l, zs, rfl, rfl, hH, ok, q⟩ := h
  obtain ⟨t, rfl⟩ := rx
  obtain ⟨u, rfl, ru⟩ := rv.one
  cases ru
  obtain ⟨z, its, n, r, hl, e⟩ := I.lstM hH
  obtain ⟨ps, rfl, e2⟩ := strs_of r
  exact SC.join ⟨_, e, rfl, _, rfl⟩ e2 ok fun t' k => ⟨.str _, H, I.tok _, ⟨t', rfl⟩, q⟩
def rCount (K : PySem.W.Frag) : V → List V → Hp → VK → Prop := fun x vs H Q => ∃ (l : Addr) (zs : List Str) (k : Str), x = .ref l ∧ vs = [.str k] ∧ SqL K H l (zs.map V.str) ∧ Q (.int (countIn (.str k) (zs.map PyData.str))) H
theorem mt_count {X : Cx} : MtM X "list.count" (rCount X.K) := by
  intro pins s σ H x vs v us Q I rx rv h
  obtain ⟨l, zs, k, rfl, rfl, hH, q⟩ := h
  cases rx
  obtain ⟨u, rfl, ru⟩ := rv.one
  obtain ⟨t, rfl⟩ := ru
  obtain ⟨its, rv, pl, hz⟩ := I.list hH
  exact count_list_strs pl.isList (strsAre_of rv) ⟨.int _, H, I.tok _, ⟨_, rfl⟩, q⟩
def stp (a : List Str) (z : Str) : List Str := if z ∈ a then a else a ++ [z]
def metS (val : Nat → Str) : Nat → List Str
  | 0 => []
  | i + 1 => stp (metS val i) (val i)
theorem metS_le (val : Nat → Str) : ∀ i, (metS val i).length ≤ i
  | 0 => Nat.le_refl _
  | i + 1 => by
    have ih := metS_le val i
    show (stp _ _).length ≤ _
    unfold stp
    split
    · omega
    · rw [List.length_append, List.length_singleton]; omega
def inS (a : List Str) : Key → Bool := fun k => a.any fun z => decide (k = .inr z)
theorem inS_at (a : List Str) (z : Str) : inS a (.inr z) = decide (z ∈ a) := by
  unfold inS
  by_cases h : z ∈ a
  · rw [decide_eq_true h, List.any_eq_true]
    exact ⟨z, h, decide_eq_true rfl⟩
  · rw [decide_eq_false h, List.any_eq_false]
    intro y hy
    rw [decide_eq_true_eq]
    intro e
    exact h (Sum.inr.inj e ▸ hy)
theorem inS_stp (a : List Str) (z : Str) (k : Key) : inS (stp a z) k = (inS a k || decide (k = .inr z)) := by
  unfold stp
  split
  · rename_i h
    by_cases e : k = .inr z
    · subst e
      rw [inS_at, decide_eq_true h]; rfl
    · rw [decide_eq_false e, Bool.or_false]
  · unfold inS
    rw [List.any_append]
    simp
theorem len_stp (a : List Str) (z : Str) : (stp a z).length = if inS a (.inr z) = true then a.length else a.length + 1 := by
  rw [inS_at]
  unfold stp
  by_cases h : z ∈ a
  · rw [if_pos h, if_pos (decide_eq_true h)]
  · rw [if_neg h, if_neg (by rw [decide_eq_true_eq]; exact h), List.length_append, List.length_singleton]
section
variable {prog : Program} {w : World} {A : Around} {R : Result → Shared → Prop} {I : Addr} {fp wr : List Addr} {G : Array GenState → Array GenState → Prop} {n : Nat} {P : Nat → Value → Prop} {St : Nat → Shared → Prop}
theorem setOf_stay {S : Addr} {f : Key → Bool} {m : Nat} {h h' : Heap} (x : h.SetOf (mixKind prog w) S f m) (k : ∀ o, h.get? S = some o → h'.get? S = some o) : h'.SetOf (mixKind prog w) S f m := by
  obtain ⟨o, es, ep, t, ho, rest⟩ := x
  exact ⟨o, es, ep, t, k o ho, rest⟩
theorem set_loop (W : WalksS prog w A.in1 I fp wr G n P St) (S : Addr) (hSf : S ∉ fp) (val : Nat → Str) (hval : ∀ i v, P i v → ∃ t, v = .str (val i) t) (hb : n + 1 < scanBound) :
    ∀ (k i : Nat) (s : Shared), n - i = k → i ≤ n → St i s → s.heap.SetOf (mixKind prog w) S (inS (metS val i)) (metS val i).length →
      (∀ s', Moved (S :: wr) G s s' → s'.heap.SetOf (mixKind prog w) S (inS (metS val n)) (metS val n).length → R (.ok (.ret .none)) s') →
      codeAny (model prog w) A (.builtin "set.update.loop" ⟨[.ref S, .ref I], []⟩) R s := by
  have hSw : S ∉ wr := fun h => hSf (W.sub _ h)
  have hsub : ∀ b ∈ wr, b ∈ S :: wr := fun b hb => List.mem_cons_of_mem _ hb
  intro k
  induction k with
  | zero =>
    intro i s hk hi hst hS hR
    have hin : i = n := by omega
    subst hin
    refine codeAny_builtin PyProof.Rows.F.entry_set_update_loop ?_
    rw [Around.under_plainId PyProof.Rows.F.plain_set_update_loop _]
    show wpAny _ A.in1 (pyNext (.ref I) >>= _) _ _ s
    refine wpAny_bind (W.done s _ _ hst fun s' hm => ?_)
    show wpAny _ A.in1 (ret Value.none) _ _ s'
    exact wpAny_pure (hR s' (hm.mono hsub) (setOf_stay hS fun o e => hm.heap S o hSw e))
  | succ k ih =>
    intro i s hk hi hst hS hR
    have hlt : i < n := by omega
    refine codeAny_builtin PyProof.Rows.F.entry_set_update_loop ?_
    rw [Around.under_plainId PyProof.Rows.F.plain_set_update_loop _]
    show wpAny _ A.in1 (pyNext (.ref I) >>= _) _ _ s
    refine wpAny_bind (W.item i s _ _ hlt hst fun v s' hP hst' hm => ?_)
    obtain ⟨t, rfl⟩ := hval i v hP
    have hS' := setOf_stay hS fun o e => hm.heap S o hSw e
    show wpAny _ A.in1 (holding [Value.str (val i) t] (setAdd S (.str (val i) t)) >>= _) _ _ s'
    refine wpAny_bind (wpAny_holding ?_)
    unfold setAdd
    refine wpAny_holding ?_
    refine wpAny_bind ((mixKind prog w).pyHash (k := .inr (val i)) (mixKind_str _ _ _ _) ?_)
    have hroom : (metS val i).length + 1 < scanBound := by have := metS_le val i; omega
    refine wpAny_setAddHashed_of (knd := mixKind prog w) (s := { s' with toks := s'.toks + 1 }) (mixKind_str _ _ _ _) rfl hS' hroom fun h' hsb hS2 => ?_
    have hSi : h'.SetOf (mixKind prog w) S (inS (metS val (i + 1))) (metS val (i + 1)).length := by
      have e1 : inS (metS val (i + 1)) = fun k' => inS (metS val i) k' || decide (k' = .inr (val i)) := funext fun k' => inS_stp _ _ _
      have e2 : (metS val (i + 1)).length = _ := len_stp (metS val i) (val i)
      rw [e1, e2]
      exact hS2
    refine wpAny_pure ⟨plainId_quiet PyProof.Rows.F.plain_set_update_loop _, ih (i + 1) _ (by omega) hlt (W.frame _ s' _ _ hst' (Nat.le_succ _) fun b hb o e => ?_) hSi fun s'' hm'' hS'' => ?_⟩
    · rw [hsb.2 b (fun h : b = S => hSf (by rw [← h]; exact hb))]; exact e
    · refine hR s'' (Moved.trans W.gtrans ((hm.mono hsub).then_heap (Nat.le_succ _) fun b o hb e => ?_) hm'') hS''
      rw [hsb.2 b (fun h : b = S => hb (by rw [h]; exact List.mem_cons_self))]; exact e
end
section
variable {prog : Program} {w : World} {A : Around} {E : Value → Shared → Prop} {s : Shared}
set_option maxHeartbeats 3200000 in
theorem call_set_strs {l : Addr} {items : Array Value} {zs : List Str} {Q : Value → Shared → Prop}
    (hh : A.handled = none) (hl : s.heap.IsList l items) (hi : Vals (zs.map V.str) items.toList) (hb : items.size + 1 < scanBound)
    (h : ∀ (h' : Heap) (tk : Nat), h'.SetOf (mixKind prog w) s.heap.objs.size (inS (metS (fun i => zs.getD i "") items.size)) (metS (fun i => zs.getD i "") items.size).length →
      (∀ b o, b < s.heap.objs.size → s.heap.get? b = some o → h'.get? b = some o) → Q (.ref s.heap.objs.size) { s with heap := h', toks := tk }) :
    wpAny (model prog w) A (call (.type "set") [.ref l]) Q E s := by
  obtain ⟨c, tl, hmro⟩ := PySem.F.called_set.mro
  have hmade := PySem.F.called_set.made
  have hsub := PySem.F.called_set.sub
  refine wpAny_call (codeAny_of_tree ?_)
  show wpAny _ _ (callAny (.type "set") _) _ _ _
  refine wpAny_pure ⟨Code.quiet_builtin _ (by decide +kernel), codeAny_builtin PySem.F.entry_type_call ?_⟩
  rw [Around.under_plain (weight_type_call_type "set" [.ref l] []) rfl]
  have h1 := PySem.F.called_set.notType
  have h2 := PySem.F.called_set.canCreate
  have hct := PySem.F.typeCall_set_1 (.ref l)
  repeat (any_goals (first | assumption | wp_step))
  refine codeAny_mono (code_set_new_1 (.ref l) (E := E) (Q₁ := fun obj s₁ => ∃ led : Bool, obj = .ref s.heap.objs.size ∧ s₁ = { s with heap := s.heap.push { cls := .type "set", dict := none, data := .set #[] 0 (.fresh 0 0 led) } }) fun led => ⟨led, rfl, rfl⟩) fun r s₁ hr => ?_
  cases r with
  | error e => exact hr
  | ok fl =>
    cases fl with
    | ret obj =>
      obtain ⟨led, rfl, rfl⟩ := hr
      have hS : (s.heap.push { cls := .type "set", dict := none, data := .set #[] 0 (.fresh 0 0 led) }).get? s.heap.objs.size = some { cls := .type "set", dict := none, data := .set #[] 0 (.fresh 0 0 led) } := Heap.get?_push_size _ rfl
      have hT : Shared.TypeIs { s with heap := s.heap.push { cls := .type "set", dict := none, data := .set #[] 0 (.fresh 0 0 led) } } (.ref s.heap.objs.size) "set" := ⟨_, hS, rfl⟩
      have hli := PySem.F.called_set.init.lookup
      have hbi := PySem.F.called_set.init.bind (.ref s.heap.objs.size)
      repeat (any_goals (first | assumption | wp_step))
      refine codeAny_mono (codeAny_call_builtin (R := wants (fun r s₂ => r = .none ∧ ∃ h' tk, s₂ = { s with heap := h', toks := tk } ∧
          h'.SetOf (mixKind prog w) s.heap.objs.size (inS (metS (fun i => zs.getD i "") items.size)) (metS (fun i => zs.getD i "") items.size).length ∧
          (∀ b o, b < s.heap.objs.size → s.heap.get? b = some o → h'.get? b = some o)) E) PySem.F.called_set.init.plain PySem.F.entry_set_init (check_set_init_1 hT ?_)) fun r₂ s₂ hr₂ => ?_
      · obtain ⟨ol, hol, hcl, nl, hdl⟩ := hl
        obtain ⟨ocls, odict, odata, oslots⟩ := ol
        simp only at hcl hdl
        subst hcl; subst hdl
        have hol' : (s.heap.push { cls := .type "set", dict := none, data := .set #[] 0 (.fresh 0 0 led) }).get? l = some { cls := .type "list", dict := odict, data := .seq items nl, slots := oslots } := Heap.get?_push_of_some _ hol
        have hsls := PySem.F.sub_list_set
        have hslf := PySem.F.sub_list_frozenset
        have hne : (Value.type "list" == Value.type "dict") = false := by decide
        have hl1 : (s.heap.push { cls := .type "set", dict := none, data := .set #[] 0 (.fresh 0 0 led) }).IsList l items := ⟨_, hol', rfl, nl, rfl⟩
        unfold Builtin.«set.__init__» noKeywords Builtin.Frozenset.updateFrom
        generalize hPI : pyIter = PI
        wp_walk
        subst hPI
        refine wpAny_pyIter_list hl1 ?_
        refine wpAny_bind (wpAny_runValue ?_)
        have hlS : l < s.heap.objs.size := Heap.lt_size hol
        have hh3 : A.in1.in1.in1.handled = none := by simp [hh]
        have hneI : l ≠ (s.heap.push { cls := .type "set", dict := none, data := .set #[] 0 (.fresh 0 0 led) }).objs.size := by
          rw [Heap.size_push]; exact Nat.ne_of_lt (Nat.lt_succ_of_lt hlS)
        have hSf : s.heap.objs.size ∉ [(s.heap.push { cls := .type "set", dict := none, data := .set #[] 0 (.fresh 0 0 led) }).objs.size, l] := by
          rw [Heap.size_push]; simp only [List.mem_cons, List.mem_singleton, List.not_mem_nil, or_false, not_or]
          exact ⟨Nat.ne_of_lt (Nat.lt_succ_self _), Nat.ne_of_gt hlS⟩
        have hval : ∀ (i : Nat) (v : Value), items[i]? = some v → ∃ t, v = .str ((fun i => zs.getD i "") i) t := fun i v hv => by
          have hv' : items.toList[i]? = some v := by rw [Array.getElem?_toList]; exact hv
          have hil : i < zs.length := by
            have e1 := hi.length
            have e2 := lt_of_get hv'
            rw [List.length_map] at e1
            omega
          obtain ⟨u, hu, ru⟩ := hi.get (i := i) (x := .str zs[i]) (by rw [List.getElem?_map, List.getElem?_eq_getElem hil]; rfl)
          rw [hv'] at hu
          cases hu
          obtain ⟨t, rfl⟩ := ru
          exact ⟨t, by show Value.str _ t = Value.str (zs.getD i "") t; rw [List.getD_eq_getElem?_getD, List.getElem?_eq_getElem hil]; rfl⟩
        refine set_loop ((Walks.list hh3 _ l hneI items).toS) s.heap.objs.size
          hSf (fun i => zs.getD i "") hval hb (items.size - 0) 0 _ (by omega) (Nat.zero_le _)
          ⟨⟨_, Heap.get?_push_size _ rfl, rfl, rfl⟩, (hl1.push _)⟩ ?hS0 ?hR
        case hS0 =>
          have hget : ((s.heap.push { cls := .type "set", dict := none, data := .set #[] 0 (.fresh 0 0 led) }).push { cls := .type "list_iterator", data := .fields #[.ref l, .int 0 0] }).get? s.heap.objs.size
              = some { cls := .type "set", dict := none, data := .set #[] 0 (.fresh 0 0 led) } := Heap.get?_push_of_some _ hS
          exact ⟨_, #[], 0, _, hget, ⟨rfl, rfl, rfl⟩, rfl, (fun e he => by simp at he), (fun k => ⟨fun z => absurd (show false = true from z) Bool.false_ne_true, fun ⟨e, he, _⟩ => by simp at he⟩), by decide, by rfl, rfl⟩
        case hR =>
          intro s' hm hS'
          obtain ⟨h', g', d', tk', os'⟩ := s'
          have eg : g' = s.gens := hm.gens
          have ed : d' = s.drawn := hm.drawn
          have eo : os' = s.os := hm.os
          subst eg; subst ed; subst eo
          show wpAny _ _ _ _ _ _
          refine wpAny_pure ?_
          show wpAny _ _ (ret Value.none) _ _ _
          refine wpAny_pure ⟨rfl, h', tk', rfl, hS', fun b o hb e => ?_⟩
          have hb1 : b ≠ s.heap.objs.size := Nat.ne_of_lt hb
          have hb2 : b ≠ (s.heap.push { cls := .type "set", dict := none, data := .set #[] 0 (.fresh 0 0 led) }).objs.size := by
            rw [Heap.size_push]; exact Nat.ne_of_lt (Nat.lt_succ_of_lt hb)
          exact hm.heap b o (by simp only [List.mem_cons, List.mem_singleton, List.not_mem_nil, or_false, not_or]; exact ⟨hb1, hb2⟩) (Heap.get?_push_of_some _ (Heap.get?_push_of_some _ e))
      · cases r₂ with
        | error e => exact hr₂
        | ok fl₂ =>
          cases fl₂ with
          | ret r =>
            obtain ⟨rfl, h', tk, rfl, hS', hk'⟩ := hr₂
            repeat (any_goals (first | assumption | wp_step))
            exact h _ _ hS' hk'
          | _ => exact hr₂.elim
    | _ => exact hr.elim
end
theorem bt_set : bootBuiltins "set" = some (.type "set") := by decide +kernel
abbrev setO (P : Program) (w : World) (p : Addr) (n : Nat) : HO := .ext fun h => ∃ f, h.SetOf (mixKind P w) p f n
section
variable {X : Cx}
theorem call_setS (hc : X.calm = true) : CallR X (.type "set") (fun xs H Q => ∃ (l : Addr) (zs : List Str), xs = [.ref l] ∧ SqL X.K H l (zs.map V.str) ∧ zs.length < 1000 ∧ ∀ p, H p = none → Q (.ref p) (upd H p (setO X.prog X.w p (metS (fun i => zs.getD i "") zs.length).length))) := by
  intro pins s σ H xs us Q I r h
  obtain ⟨l, zs, rfl, hl, hz, q⟩ := h
  obtain ⟨u, rfl, ru⟩ := vals1 r
  cases ru
  obtain ⟨its, rv, pl, _⟩ := I.list hl
  have el : its.toArray.size = zs.length := by
    have := rv.length
    rw [List.length_map] at this
    rw [List.size_toArray]; exact this.symm
  refine call_set_strs (zs := zs) (I.ok.hd hc) pl.isList (by simpa using rv) (by rw [el]; unfold scanBound; omega) fun h' tk hS hk => ?_
  rw [el] at hS
  have ob : ObjOk X.prog X.w (upd H s.heap.objs.size (setO X.prog X.w s.heap.objs.size (metS (fun i => zs.getD i "") zs.length).length)) h' s.heap.objs.size (setO X.prog X.w s.heap.objs.size (metS (fun i => zs.getD i "") zs.length).length) := by
    refine ⟨⟨_, hS⟩, ?_, fun h1 h2 ⟨f, x⟩ k => ⟨f, setOf_stay x k⟩⟩
    obtain ⟨o, _, _, _, e, _⟩ := hS
    exact ⟨o, e⟩
  exact ⟨.ref s.heap.objs.size, _, I.laid (t' := tk) (fun b o e => hk b o (Heap.lt_size e) e) (Nat.le_refl _) ob, rfl, q _ (I.hok.fresh (Nat.le_refl _))⟩
theorem call_lenS : CallR X (.builtin "len") (fun xs H Q => ∃ (p : Addr) (n : Nat), xs = [.ref p] ∧ H p = some (setO X.prog X.w p n) ∧ n < 1000 ∧ Q (.int n) H) := by
  intro pins s σ H xs us Q I r h
  obtain ⟨p, n, rfl, hp, hn, q⟩ := h
  obtain ⟨u, rfl, ru⟩ := vals1 r
  cases ru
  have ob : ObjOk X.prog X.w H s.heap p (setO X.prog X.w p n) := I.hok p _ hp
  obtain ⟨⟨f, o, es, ep, t, ho, hex, hd, _, _, _, hf, en⟩, _⟩ := ob
  refine call_len_set ho hex hd hf (by rw [en]; have : ((n : Nat) : Int) < 1000 := by omega
                                       exact Int.lt_trans this (by decide)) ⟨.int n, H, I.tok _, ⟨_, by rw [en]⟩, q⟩
end
end L2
namespace L2
open PySem PySem.Spec PyProof.Rows PySem.Builtin
section
variable {X : Cx} {k : Nat} {f : Addr} {fd : FuncData} {ps : List Str} {sp : Sp} {pins : List (Addr × Obj)} {σ : St}
theorem run_in1 {H : Hp} {s : Shared} {Q : VK} {us : List Value} {vs : List V} {E' : Value → Shared → Prop} (F : FnB X.prog X.w X.K X.mg X.base true k f fd ps sp) (hr : RoomB true (k + 1) X.A) (hb : Binds X.K fd ps [])
    (I : Inv X pins σ H s) (r : Vals vs us) (h : sp vs H Q E0) : wpAny (model X.prog X.w) X.A.in1 (call (.ref f) us) (EP X pins σ Q) E' s := by
  have hl : (us ++ []).length = ps.length := by rw [List.append_nil, ← r.length]; exact F.len _ _ _ _ h
  have hbd := hb s us I.kIn hl
  rw [List.append_nil] at hbd
  refine wpAny_call (codeAny_mono (F.run X.A.in1 X.stack s H ⟨us, []⟩ us vs Q E0 (Room.in1 hr.room).b I.env0.in1 hbd r h) fun r s' hq => ?_)
  cases r with
  | error e =>
    obtain ⟨_, _, _, _, _, _, _, _, _, _, _, _, z⟩ := hq
    exact z.elim
  | ok fl =>
    cases fl with
    | ret u => exact I.after hq
    | next => exact False.elim hq
    | brk => exact False.elim hq
    | cont => exact False.elim hq
def lessI (ns : List Int) : Nat → Nat → Bool := fun i j => decide (ns.getD i 0 < ns.getD j 0)
def MinOf (xs : List V) (ns : List Int) (v : V) : Prop := (xs = [] ∧ v = .non) ∨ (xs ≠ [] ∧ xs[argBest (lessI ns) (xs.length - 1)]? = some v)
def BestAt (xs : List V) (ns : List Int) (S : Addr) (i : Nat) (h : Heap) : Prop := ∃ (c : Nat) (bs : Array Value), h.get? S = some { cls := .type "list", dict := none, data := .seq bs c, slots := #[] } ∧
  ((i = 0 ∧ bs = #[]) ∨ (0 < i ∧ ∃ b u t, xs[argBest (lessI ns) (i - 1)]? = some b ∧ RelV b u ∧ bs = #[u, .int (ns.getD (argBest (lessI ns) (i - 1)) 0) t]))
theorem minkey_loop (hc : X.calm = true) (F : FnB X.prog X.w X.K X.mg X.base true k f fd ps sp) (hr : RoomB true (k + 1) X.A) (hb : Binds X.K fd ps []) {l it S : Addr} {xs : List V} {ns : List Int} {H0 : Hp} (hq0 : SqL X.K H0 l xs)
    (hk : ∀ i x H, xs[i]? = some x → Same H0 H → sp [x] H (fun r H2 => r = .int (ns.getD i 0) ∧ Same H H2) E0) (hne : it ≠ S) {R : Result → Shared → Prop}
    (hR : ∀ v u s' H', Same H0 H' → MinOf xs ns v → RelV v u → Inv X pins σ H' s' → R (.ok (.ret u)) s') :
    ∀ (m i : Nat) (s : Shared) (H : Hp), xs.length - i = m → i ≤ xs.length → Same H0 H → Inv X pins σ H s → FpOk X pins H it → FpOk X pins H S → s.heap.IsListIter it l i → BestAt xs ns S i s.heap →
      codeAny (model X.prog X.w) X.A (.builtin "min.loop" ⟨[.ref it, .ref f, .ref S], [("default", .none)]⟩) R s := by
  have hname : (toString "min" ++ toString ".loop" : String) = "min.loop" := by decide
  intro m
  induction m with
  | zero =>
    intro i s H hm hi sm I fi fS st bst
    have hin : i = xs.length := by omega
    subst hin
    obtain ⟨c, bs, hS, hbs⟩ := bst
    obtain ⟨its, rv, p, hz⟩ := I.list (sm.seq hq0)
    obtain ⟨g0, g1, g2, g3, g4, g5⟩ := fi
    obtain ⟨f0, f1, f2, f3, f4, f5⟩ := fS
    have hl := rv.length
    have hh : X.A.in1.handled = none := I.ok.hd hc
    refine codeAny_builtin PySem.F.entry_min_loop ?_
    rw [Around.under_plainId PySem.F.plain_min_loop _]
    show wpAny _ X.A.in1 (seqItems? (.ref S) >>= _) _ _ s
    refine wpAny_bind (wpAny_seqItems hS rfl ?_)
    rcases hbs with ⟨h0, rfl⟩ | ⟨h0, b, u, t, hb1, ru, rfl⟩
    · show wpAny _ X.A.in1 (tryCatch (pyNext (.ref it)) _ >>= _) _ _ s
      refine wpAny_bind (wpAny_tryCatch (wpAny_pyNext_list_end hh st p.isList (by simp; omega) fun h' eb => ?_))
      have I1 : Inv X pins σ H { s with heap := h' } := I.turned (t' := s.toks) (fun b o hb e => eb b o hb e) g0 g1 g3 g4 g5
      refine wpAny_bind (wpAny_rule (wpAny_pure ?_))
      exact hR .non .none _ H sm (.inl ⟨List.length_eq_zero_iff.mp h0, rfl⟩) rfl I1
    · show wpAny _ X.A.in1 (tryCatch (pyNext (.ref it)) _ >>= _) _ _ s
      refine wpAny_bind (wpAny_tryCatch (wpAny_pyNext_list_end hh st p.isList (by simp; omega) fun h' eb => ?_))
      have I1 : Inv X pins σ H { s with heap := h' } := I.turned (t' := s.toks) (fun b o hb e => eb b o hb e) g0 g1 g3 g4 g5
      have hS' := eb S _ (Ne.symm hne) hS
      show wpAny _ X.A.in1 (updateSeq S (fun _ => #[]) >>= _) _ _ _
      refine wpAny_bind ?_
      refine wpAny_updateSeq hS' rfl (wpAny_bind (wpAny_letGo (wpAny_pure ?_)))
      refine hR b u _ H sm (.inr ⟨fun z => by subst z; exact Nat.lt_irrefl _ h0, hb1⟩) ru ?_
      exact I1.turned (it := S) (t' := s.toks) (fun b o hb e => (Heap.get?_update_other _ _ (Ne.symm hb)).trans e) f0 f1 f3 f4 f5
  | succ m ih =>
    intro i s H hm hi sm I fi fS st bst
    have hlt : i < xs.length := by omega
    have hx : xs[i]? = some xs[i] := List.getElem?_eq_getElem hlt
    obtain ⟨c, bs, hS, hbs⟩ := bst
    have hq := sm.seq hq0
    obtain ⟨its, rv, p, hz⟩ := I.list hq
    obtain ⟨u, hu, ru⟩ := rv.get hx
    have fi' := fi
    have fS' := fS
    obtain ⟨g0, g1, g2, g3, g4, g5⟩ := fi
    obtain ⟨f0, f1, f2, f3, f4, f5⟩ := fS
    refine codeAny_builtin PySem.F.entry_min_loop ?_
    rw [Around.under_plainId PySem.F.plain_min_loop _]
    show wpAny _ X.A.in1 (seqItems? (.ref S) >>= _) _ _ s
    refine wpAny_bind (wpAny_seqItems hS rfl ?_)
    show wpAny _ X.A.in1 (tryCatch (pyNext (.ref it)) _ >>= _) _ _ s
    refine wpAny_bind (wpAny_tryCatch (wpAny_pyNext_list_item st p.isList (x := u) (by simpa using hu) fun h' st' sb => ?_))
    have I1 : Inv X pins σ H { s with heap := h' } := I.turned (t' := s.toks) (fun b o hb e => (sb.2 b hb).trans e) g0 g1 g3 g4 g5
    have hS1 : h'.get? S = _ := (sb.2 S (Ne.symm hne)).trans hS
    have hpo : ∀ b ∈ [it, S], ∃ o, h'.get? b = some o ∧ ∀ v, o.data ≠ .cell v := by
      intro b hb
      rcases List.mem_cons.mp hb with rfl | hb
      · obtain ⟨o, e, _, d⟩ := st'
        exact ⟨o, e, fun v z => by rw [d] at z; cases z⟩
      · cases List.mem_singleton.mp hb
        exact ⟨_, hS1, fun v z => nomatch z⟩
    have hpf : ∀ b ∈ [it, S], FpOk X pins H b := by
      intro b hb
      rcases List.mem_cons.mp hb with rfl | hb
      · exact fi'
      · cases List.mem_singleton.mp hb
        exact fS'
    have I2 := I1.pinned (s := { s with heap := h' }) hpf hpo
    have back : ∀ {H3 : Hp} {s3 : Shared}, Inv X (pins ++ pinsAt [it, S] h') σ H3 s3 → Inv X pins σ H3 s3 ∧ s3.heap.IsListIter it l (i + 1) ∧ s3.heap.get? S = some { cls := .type "list", dict := none, data := .seq bs c, slots := #[] } ∧ FpOk X pins H3 it ∧ FpOk X pins H3 S := fun {H3 s3} I3 => by
      have e1 : ∀ b o, b ∈ [it, S] → h'.get? b = some o → s3.heap.get? b = some o ∧ H3 b = none := fun b o hb e => by
        have z := I3.pin (b, o) (List.mem_append_right _ (List.mem_append_right _ (mem_pinsAt hb e)))
        exact ⟨z.1, z.2.1⟩
      obtain ⟨o, e, _⟩ := id st'
      refine ⟨I3.unpinned, st'.at fun o e => (e1 it o (by simp) e).1, (e1 S _ (by simp) hS1).1, ⟨(e1 it o (by simp) e).2, g1, g2, g3, g4, g5⟩, ⟨(e1 S _ (by simp) hS1).2, f1, f2, f3, f4, f5⟩⟩
    rcases hbs with ⟨h0, rfl⟩ | ⟨h0, b, ub, tb, hb1, rb, rfl⟩
    · subst h0
      show wpAny _ X.A.in1 (tryCatch (holding [u] (call (.ref f) [u])) _ >>= _) _ _ _
      refine wpAny_bind (wpAny_tryCatch (wpAny_holding (wpAny_mono (run_in1 (E' := fun _ _ => False) F hr hb I2 (vs := [xs[0]]) (.cons ru .nil) (hk 0 _ H hx sm)) (fun kv s3 hq3 => ?_) (fun _ _ z => z.elim))))
      obtain ⟨v3, H3, I3, r3, e3, s3s⟩ := hq3
      subst e3
      obtain ⟨t, rfl⟩ := r3
      obtain ⟨J, stJ, hSJ, fiJ, fSJ⟩ := back I3
      obtain ⟨k0, k1, k2, k3, k4, k5⟩ := id fSJ
      show wpAny _ X.A.in1 (updateSeq S (fun _ => #[u, .int (ns.getD 0 0) t]) >>= _) _ _ _
      refine wpAny_bind ?_
      refine wpAny_updateSeq hSJ rfl ?_
      rw [hname]
      have J2 := J.turned (it := S) (t' := s3.toks) (h' := s3.heap.update S (Obj.mapSeq fun _ => #[u, .int (ns.getD 0 0) t])) (fun b o hb e => (Heap.get?_update_other _ _ (Ne.symm hb)).trans e) k0 k1 k3 k4 k5
      refine wpAny_pure ⟨plainId_quiet PySem.F.plain_min_loop _, ih 1 _ H3 (by omega) hlt (sm.trans s3s) J2 fiJ fSJ (stJ.at fun o e => (Heap.get?_update_other _ _ (Ne.symm hne)).trans e) ?_⟩
      exact ⟨_, _, Heap.get?_update_self _ hSJ rfl, .inr ⟨Nat.one_pos, xs[0], u, t, hx, ru, rfl⟩⟩
    · show wpAny _ X.A.in1 (tryCatch (holding [u] (call (.ref f) [u])) _ >>= _) _ _ _
      refine wpAny_bind (wpAny_tryCatch (wpAny_holding (wpAny_mono (run_in1 (E' := fun _ _ => False) F hr hb I2 (vs := [xs[i]]) (.cons ru .nil) (hk i _ H hx sm)) (fun kv s3 hq3 => ?_) (fun _ _ z => z.elim))))
      obtain ⟨v3, H3, I3, r3, e3, s3s⟩ := hq3
      subst e3
      obtain ⟨t, rfl⟩ := r3
      obtain ⟨J, stJ, hSJ, fiJ, fSJ⟩ := back I3
      obtain ⟨k0, k1, k2, k3, k4, k5⟩ := id fSJ
      show wpAny _ X.A.in1 (tryCatch (holding [u, .int (ns.getD i 0) t] (richCompare .Lt (.int (ns.getD i 0) t) (.int (ns.getD (argBest (lessI ns) (i - 1)) 0) tb) >>= _)) _ >>= _) _ _ _
      refine wpAny_bind (wpAny_tryCatch (wpAny_holding (wpAny_bind (CmpOf.ints_lt (P := fun j v => ∃ t, v = .int (ns.getD j 0) t) (fun j => ns.getD j 0) (fun _ _ z => z) i (argBest (lessI ns) (i - 1)) _ _ _ _ _ ⟨t, rfl⟩ ⟨tb, rfl⟩ ?_))))
      refine wpAny_bind (wpAny_holding (wpAny_truthy_bool ?_))
      refine wpAny_bind (wpAny_letGo (wpAny_pure ?_))
      have ei : i - 1 + 1 = i := by omega
      have ab : argBest (lessI ns) i = if lessI ns i (argBest (lessI ns) (i - 1)) = true then i else argBest (lessI ns) (i - 1) := by
        rw [← ei]; rfl
      show wpAny _ X.A.in1 (if lessI ns i (argBest (lessI ns) (i - 1)) = true then _ else _) _ _ _
      cases hbt : lessI ns i (argBest (lessI ns) (i - 1)) with
      | true =>
        rw [hbt, if_pos rfl] at ab
        simp only [if_true]
        refine wpAny_bind ?_
        refine wpAny_updateSeq hSJ rfl (wpAny_bind (wpAny_letGo ?_))
        rw [hname]
        have J2 := J.turned (it := S) (t' := s3.toks) (h' := s3.heap.update S (Obj.mapSeq fun _ => #[u, .int (ns.getD i 0) t])) (fun b o hb e => (Heap.get?_update_other _ _ (Ne.symm hb)).trans e) k0 k1 k3 k4 k5
        refine wpAny_pure ⟨plainId_quiet PySem.F.plain_min_loop _, ih (i + 1) _ H3 (by omega) hlt (sm.trans s3s) J2 fiJ fSJ (stJ.at fun o e => (Heap.get?_update_other _ _ (Ne.symm hne)).trans e) ?_⟩
        exact ⟨_, _, Heap.get?_update_self _ hSJ rfl, .inr ⟨Nat.succ_pos _, xs[i], u, t, by show xs[argBest (lessI ns) i]? = _; rw [ab]; exact hx, ru, by show _ = #[u, Value.int (ns.getD (argBest (lessI ns) i) 0) t]; rw [ab]⟩⟩
      | false =>
        rw [hbt, if_neg Bool.false_ne_true] at ab
        simp only [Bool.false_eq_true, if_false]
        refine wpAny_bind (wpAny_letGo ?_)
        rw [hname]
        refine wpAny_pure ⟨plainId_quiet PySem.F.plain_min_loop _, ih (i + 1) _ H3 (by omega) hlt (sm.trans s3s) J fiJ fSJ stJ ?_⟩
        exact ⟨_, _, hSJ, .inr ⟨Nat.succ_pos _, b, ub, tb, by show xs[argBest (lessI ns) i]? = _; rw [ab]; exact hb1, rb, by show _ = #[ub, Value.int (ns.getD (argBest (lessI ns) i) 0) tb]; rw [ab]⟩⟩
end
theorem call_tree_kw {prog : Program} {w : World} {A : Around} {E : Value → Shared → Prop} {s : Shared} {id : String} {b : Builtin} {args : List Value} {kw : List (Str × Value)} {Q : Value → Shared → Prop} (hk : builtinKind id = none) (hp : plainId id = true)
    (hb : entryFor table id = some b) (ha : argsOk id ⟨args, kw⟩)
    (hc : wpAny (model prog w) A.in1 (b ⟨args, kw⟩) (fun fin s' => match fin with
      | .done f => (match (Except.ok f : Result) with | .ok (.ret v) => Q v s' | .ok _ => False | .error e => E e s')
      | .again c' => c'.quiet = true ∧ codeAny (model prog w) A c' (fun r s' => match r with | .ok (.ret v) => Q v s' | .ok _ => False | .error e => E e s') s') E s) :
    wpAny (model prog w) A (call (.builtin id) args kw) Q E s := by
  refine wpAny_call (codeAny_call_builtin hp hb ?_)
  simp only [checkBuiltinCall, hk]
  cases hsig : Manifest.signature? id with
  | none => exact wpAny_pure hc
  | some sig =>
    have h2 : Bind.checkArgs id sig ⟨args, kw⟩ = pure () := by simpa only [argsOk, hsig] using ha
    show wpAny _ A.in1 (Bind.checkArgs id sig ⟨args, kw⟩) _ _ s
    rw [h2]; exact wpAny_pure hc
theorem args_min_key (a f d : Value) : argsOk "min" ⟨[a], [("key", f), ("default", d)]⟩ := by unfold argsOk; kernel_rfl
section
variable {X : Cx} {k : Nat} {ps : List Str} {sp : Sp} {x : Str} {e : Expr} {te : TE} {p pos kp k1 k2 kp2 : Pos} {c0 : Nat}
theorem pe_minkey (hc : X.calm = true) (hg : Gl X "min") (hm : X.mg "min" = none) (C : CalB X.prog X.w X.K X.mg X.base true k x ps sp) (hr : RoomB true (k + 1) X.A) (he : PE X e te) (hgx : Gl X x := by rfl) (hdb : (x == ("__debug__" : Str)) = false := by decide)
    (hs : starEach [e] X.env = [(false, eval e X.env)] := by rfl) :
    PE X (.Call (.Name "min" p) [e] [⟨some "key", .Name x kp, k1⟩, ⟨some "default", .Constant .none c0 kp2, k2⟩] pos)
      (fun σ H Q => te σ H fun v H1 => ∃ (l : Addr) (xs : List V) (ns : List Int), v = .ref l ∧ SqL X.K H1 l xs ∧ (∀ i x H2, xs[i]? = some x → Same H1 H2 → sp [x] H2 (fun r H3 => r = .int (ns.getD i 0) ∧ Same H2 H3) E0) ∧ ∀ v H2, Same H1 H2 → MinOf xs ns v → Q v H2) := by
  obtain ⟨f, fd, F, hmf, hkf, hb⟩ := C.ex
  intro pins s σ H Q I h
  refine wpAny_Call_Name_kw (ld_blt I hg hm bt_min ?_)
  refine PyProof.Rows.callWith_kw ?_ (by rw [hs]; rfl) (by rw [hs]; rfl)
  refine thn ((pa_cons he pa_nil hs) pos pins s σ H (fun vs H1 => match vs with | [v] => ∃ (l : Addr) (xs : List V) (ns : List Int), v = .ref l ∧ SqL X.K H1 l xs ∧ (∀ i x H2, xs[i]? = some x → Same H1 H2 → sp [x] H2 (fun r H3 => r = .int (ns.getD i 0) ∧ Same H2 H3) E0) ∧ ∀ v H2, Same H1 H2 → MinOf xs ns v → Q v H2 | _ => False) I h) fun us s1 ⟨vs, H1, I1, r1, q⟩ => ?_
  match vs, r1, q with
  | [v], r1, ⟨l, xs, ns, e1, hq, hk, q⟩ =>
    subst e1
    obtain ⟨u, rfl, ru⟩ := vals1 r1
    cases ru
    have kk : PK X [⟨some "key", .Name x kp, k1⟩, ⟨some "default", .Constant .none c0 kp2, k2⟩] _ := pk_cons (pe_glob (v := .ref f) hgx hmf rfl hdb) (pk_cons pe_non pk_nil)
    refine thn (kk pos pins s1 σ H1 (fun zs H2 => zs = [.ref f, .non] ∧ H2 = H1) I1 ⟨rfl, rfl⟩) fun ws s2 ⟨zs, H2, I2, r2, e2, e3⟩ => ?_
    subst e2 e3
    obtain ⟨w1, w2, rfl, rw1, rw2⟩ := vals2 r2
    cases rw1
    cases rw2
    show wpAny _ _ (call (.builtin "min") [.ref l] [("key", .ref f), ("default", .none)]) _ _ s2
    have hname : (toString "min" ++ toString ".loop" : String) = "min.loop" := by decide
    obtain ⟨its, rv, pl, hz⟩ := I2.list hq
    refine call_tree_kw PySem.F.kind_min PySem.F.plain_min PySem.F.entry_min (args_min_key _ _ _) ?_
    show wpAny _ X.A.in1 (Builtin.Builtins.bindParams "min" ["key", "default"] 0 ⟨[], [("key", .ref f), ("default", .none)]⟩ >>= _) _ _ s2
    refine wpAny_bind (wpAny_of_eq (show Builtin.Builtins.bindParams "min" ["key", "default"] 0 ⟨[], [("key", .ref f), ("default", .none)]⟩ = pure [some (.ref f), some .none] from rfl) ?_)
    refine wpAny_bind (wpAny_pure ?_)
    refine wpAny_bind (wpAny_pyIter_list pl.isList ?_)
    refine wpAny_bind (wpAny_newObj_type ?_)
    rw [hname]
    have e0 : (s2.heap.push { cls := .type "list_iterator", data := .fields #[.ref l, .int 0 0] }).objs.size = s2.heap.objs.size + 1 := Heap.size_push _ _
    have kp1 : ∀ b o, s2.heap.get? b = some o → ((s2.heap.push { cls := .type "list_iterator", data := .fields #[.ref l, .int 0 0] }).push { cls := .type "list", data := .seq #[] }).get? b = some o := fun b o e => Heap.get?_push_of_some _ (Heap.get?_push_of_some _ e)
    refine wpAny_pure ⟨plainId_quiet PySem.F.plain_min_loop _, ?_⟩
    refine minkey_loop (pins := pins) (σ := σ) (xs := xs) (ns := ns) (H0 := H2) (l := l) (it := s2.heap.objs.size) (S := (s2.heap.push { cls := .type "list_iterator", data := .fields #[.ref l, .int 0 0] }).objs.size) hc F hr hb hq (fun i y H3 hy s3 => hk i y H3 hy s3) (by rw [e0]; exact Nat.ne_of_lt (Nat.lt_succ_self _)) (fun v u s' H' sm mo rv' I' => ⟨v, H', I', rv', q v H' sm mo⟩)
      xs.length 0 _ H2 rfl (Nat.zero_le _) (Same.refl _) (I2.kept kp1) (I2.fpOk (Nat.le_refl _) (I2.hok.fresh (Nat.le_refl _))) (I2.fpOk (by rw [e0]; exact Nat.le_succ _) (I2.hok.fresh (by rw [e0]; exact Nat.le_succ _)))
      ⟨_, Heap.get?_push_of_some _ (Heap.get?_push_size _ rfl), rfl, rfl⟩ ⟨_, _, Heap.get?_push_size _ rfl, .inl ⟨rfl, rfl⟩⟩
end
theorem MtFn.mcR {P : Program} {w : World} {K : PySem.W.Frag} {mg : Str → Option Value} {base : Heap} {C : Addr} {m qual : Str} {st : Stmt} {N ps : List Str} {k : Nat} {sp : Sp} (T : MtFn K C m qual st) (S : FnScope N ps (defScope st))
    (hb : ∀ (kV doc pm : Value) (an : Option Addr) (cdv ct : Value) (us : List Value), us.length = ps.length → bindArgs (PySem.W.fnOf m qual (defArgs st) (defBody st) (defScope st) .none kV doc pm an cdv ct) ⟨us, []⟩ = pure (ps.zip us))
    (len : ∀ vs H Q E, sp vs H Q E → vs.length = ps.length)
    (hbody : ∀ (f : Addr) (cdv : Value) (A : Around) (outer : List Env) (s : Shared) (H : Hp) (vs : List V) (Q : VK) (E : XK), RoomB true k (A.deeper (envOfC qual (defScope st) s.heap.objs.size f cdv)) → sp vs H Q E →
      ∃ t, PSs (cxB true P w K mg base N qual (defScope st) f cdv A outer s H E) (defBody st) t ∧ t { nx := fun _ H' => Q .non H', rt := Q } (start N vs) H) : MC P w K mg base (k + 1) C m ps sp := by
  obtain ⟨f, fd, F, hm⟩ := T.ex
  obtain ⟨oc, od, kV, doc, pm, an, cdv, ct, osl, rfl, l, cd⟩ := id F.ex
  exact ⟨⟨f, _, fnB_of l cd S len fun A outer s H vs Q E hr h => hbody f cdv A outer s H vs Q E hr h, hm, F.binds hb⟩, T.cl⟩
end L2
namespace Lib
open PySem L2 Fr Op
def letS : Str := "abcdefghijklmnopqrstuvwxyz"
def inLet (z : Str) : Bool := !(PySem.Builtin.Str.occurrences letS z 0 letS.length 1).isEmpty
def nameB (z : Str) : Bool := (decide (1 ≤ z.length) && decide (z.length ≤ 8)) && (PyProof.Rows.signs z).all inLet
def nameD : PyData → Bool
  | .str z => nameB z
  | _ => false
theorem nameD_no {d : PyData} (h : isStrD d = false) : nameD d = false := by
  cases d <;> first | rfl | cases h
def StrOk (d : PyData) : Prop := ∀ z, d = .str z → z.length ≤ sizeLine
def spName (K : PySem.W.Frag) : Sp := fun vs H Q _ => ∃ v d, vs = [v] ∧ DV K H v d ∧ StrOk d ∧ ∀ H', Same H H' → Q (.bl (nameD d)) H'
def kindD (k : Str × Rat) : PyData := .tuple [.str k.1, frD k.2]
def nzD : PyData → Bool
  | .tuple (.int i :: _) => !decide (i = 0)
  | _ => false
theorem nzD_fr (q : Rat) : nzD (frD q) = !decide (q = 0) := by
  show (!decide (q.num = 0)) = _
  congr 1
  exact decide_eq_decide.mpr Rat.num_eq_zero
def kindB : PyData → Bool
  | .tuple [a, b] => nameD a && (ratD b && nzD b)
  | _ => false
def KOk (d : PyData) : Prop := ∀ a b, d = .tuple [a, b] → StrOk a
def spKind (K : PySem.W.Frag) : Sp := fun vs H Q _ => ∃ v d, vs = [v] ∧ DV K H v d ∧ KOk d ∧ ∀ H', Same H H' → Q (.bl (kindB d)) H'
theorem kindB_no {d : PyData} (h : isTupD d = false) : kindB d = false := by
  cases d <;> first | rfl | cases h
theorem kindB_len {ds : List PyData} (h : ds.length ≠ 2) : kindB (.tuple ds) = false := by
  match ds with
  | [] => rfl
  | [_] => rfl
  | [_, _] => exact absurd rfl h
  | _ :: _ :: _ :: _ => rfl
theorem kindB_good {k : Str × Rat} (h1 : nameB k.1 = true) (h2 : k.2 ≠ 0) : kindB (kindD k) = true := by
  show (nameB k.1 && (ratD (frD k.2) && nzD (frD k.2))) = true
  rw [h1, ratD_fr, nzD_fr, decide_eq_false h2]; rfl
theorem kindB_of {d : PyData} (h : kindB d = true) : ∃ k : Str × Rat, d = kindD k ∧ nameB k.1 = true ∧ k.2 ≠ 0 := by
  match d, h with
  | .tuple [a, b], h =>
    have h : (nameD a && (ratD b && nzD b)) = true := h
    rw [Bool.and_eq_true, Bool.and_eq_true] at h
    obtain ⟨h1, h2, h3⟩ := h
    obtain ⟨q, rfl⟩ := ratD_of h2
    match a, h1 with
    | .str z, h1 =>
      refine ⟨(z, q), rfl, h1, fun e => ?_⟩
      rw [nzD_fr, show q = 0 from e] at h3
      exact absurd h3 (by decide)
def kname : PyData → Str
  | .tuple (.str z :: _) => z
  | _ => ""
def stockB : PyData → Bool
  | .list ds => (decide (1 ≤ ds.length) && decide (ds.length ≤ 4)) && (ds.all kindB && decide ((metS (fun i => (ds.map kname).getD i "") ds.length).length = ds.length))
  | _ => false
theorem stockB_no {d : PyData} (h : isLstD d = false) : stockB d = false := by
  cases d <;> first | rfl | cases h
def SOk (d : PyData) : Prop := ∀ ds, d = .list ds → ∀ x ∈ ds, KOk x
def spStock (K : PySem.W.Frag) : Sp := fun vs H Q _ => ∃ v d, vs = [v] ∧ DV K H v d ∧ SOk d ∧ ∀ H', Same H H' → Q (.bl (stockB d)) H'
theorem metS_take {zs : List Str} (h : zs.Nodup) : ∀ i, i ≤ zs.length → metS (fun i => zs.getD i "") i = zs.take i
  | 0, _ => by rw [List.take_zero]; rfl
  | i + 1, hi => by
    have hlt : i < zs.length := hi
    show stp (metS _ i) (zs.getD i "") = _
    rw [metS_take h i (Nat.le_of_lt hlt), List.take_add_one, List.getElem?_eq_getElem hlt, List.getD_eq_getElem?_getD, List.getElem?_eq_getElem hlt]
    show stp (zs.take i) zs[i] = zs.take i ++ [zs[i]]
    unfold stp
    rw [if_neg]
    intro hm
    obtain ⟨j, hj, e⟩ := List.mem_iff_getElem.mp hm
    rw [List.getElem_take] at e
    have hji : j < i := by rw [List.length_take] at hj; omega
    have hp := List.pairwise_iff_getElem.mp h j i (by omega) hlt hji
    exact hp e
structure StockOk (st : List (Str × Rat)) : Prop where
  len : 1 ≤ st.length ∧ st.length ≤ 4
  nm : ∀ k ∈ st, nameB k.1 = true
  nz : ∀ k ∈ st, k.2 ≠ 0
  nd : (st.map (·.1)).Nodup
theorem stockB_good {st : List (Str × Rat)} (h : StockOk st) : stockB (.list (st.map kindD)) = true := by
  show ((decide (1 ≤ (st.map kindD).length) && decide ((st.map kindD).length ≤ 4)) && ((st.map kindD).all kindB && decide ((metS (fun i => ((st.map kindD).map kname).getD i "") (st.map kindD).length).length = (st.map kindD).length))) = true
  have e1 : (st.map kindD).map kname = st.map (·.1) := by rw [List.map_map]; exact List.map_congr_left fun _ _ => rfl
  have e2 : (st.map kindD).all kindB = true := by
    rw [List.all_map, List.all_eq_true]
    exact fun k hk => kindB_good (h.nm k hk) (h.nz k hk)
  rw [e1, e2, List.length_map, decide_eq_true h.len.1, decide_eq_true h.len.2]
  have e3 := metS_take h.nd st.length (by rw [List.length_map]; exact Nat.le_refl _)
  rw [e3, List.length_take, List.length_map, Nat.min_self]
  simp
theorem nameB_le {z : Str} (h : nameB z = true) : z.length ≤ 8 := by
  unfold nameB at h
  rw [Bool.and_eq_true, Bool.and_eq_true] at h
  exact of_decide_eq_true h.1.2
theorem sok_good {st : List (Str × Rat)} (h : ∀ k ∈ st, nameB k.1 = true) : SOk (.list (st.map kindD)) := by
  intro ds e x hx a b e2 z e3
  cases e
  obtain ⟨k, hk, rfl⟩ := List.mem_map.mp hx
  cases e2
  cases e3
  have := nameB_le (h k hk)
  exact Nat.le_trans this (by decide)
theorem sameT_ins {H : Hp} {x C dx : Addr} {fs : List (Str × V)} (h : H x = some (.ins C dx fs)) (o : HO) : SameT H (upd H x o) := fun b ys => ⟨fun e => by rw [upd_ne (fun z => by rw [z, h] at e; cases e)]; exact e, fun o' e => by rw [upd_ne (fun z => by rw [z, h] at e; cases e)]; exact e⟩
def ShopAt (K : PySem.W.Frag) (C : Addr) (H : Hp) (v : V) (st : List (Str × Rat)) : Prop := ∃ (a dx ls : Addr) (ks : List V), v = .ref a ∧ H a = some (.ins C dx [("stock", .ref ls)]) ∧ H ls = some (.lst ks) ∧ DVs K H ks (st.map kindD)
theorem ShopAt.keep {K : PySem.W.Frag} {C : Addr} {H H' : Hp} {v : V} {st : List (Str × Rat)} (s : Same H H') (h : ShopAt K C H v st) : ShopAt K C H' v st := by
  obtain ⟨a, dx, ls, ks, e, h1, h2, h3⟩ := h
  exact ⟨a, dx, ls, ks, e, s _ _ h1, s _ _ h2, h3.keep s⟩
def spShop (K : PySem.W.Frag) (C : Addr) : Sp := fun vs H Q _ => ∃ a dx y ds, vs = [.ref a, y] ∧ H a = some (.ins C dx []) ∧ DV K H y (.list ds) ∧ stockB (.list ds) = true ∧ SOk (.list ds) ∧
  ∀ ks ls H1, Same H H1 → H ls = none → H1 ls = some (.lst ks) → DVs K H1 ks ds → Q .non (upd H1 a (.ins C dx [("stock", .ref ls)]))
def gapsB : PyData → Bool
  | .list ds => (decide (1 ≤ ds.length) && decide (ds.length ≤ 5)) && ds.all ratD
  | _ => false
theorem gapsB_no {d : PyData} (h : isLstD d = false) : gapsB d = false := by
  cases d <;> first | rfl | cases h
def spGaps (K : PySem.W.Frag) (C : Addr) : Sp := fun vs H Q E => ∃ v d, vs = [v] ∧ DV K H v d ∧ (gapsB d = true → ∀ H', Same H H' → Q .non H') ∧ (gapsB d = false → RaisedAt H C none E)
inductive GoodW : PyData → Prop
  | table (t : Tab) (n : Nat) : Tb n t → n ≤ 1900 → t.det = 1 → GoodW (.tuple [.str "table", tabD t])
  | image (q : Rat) : GoodW (.tuple [.str "image", frD q])
  | grown (q g : Rat) : GoodW (.tuple [.str "grown", frD q, frD g])
inductive BadW : PyData → Prop
  | no (d : PyData) : isTupD d = false → BadW d
  | short (ds : List PyData) : ds.length < 2 → BadW (.tuple ds)
  | word (d : PyData) (ds : List PyData) : isStrD d = false → BadW (.tuple (d :: ds))
  | tabN (ds : List PyData) : ds.length ≠ 1 → BadW (.tuple (.str "table" :: ds))
  | tab (d : PyData) : badT d → BadW (.tuple [.str "table", d])
  | imgN (ds : List PyData) : ds.length ≠ 1 → BadW (.tuple (.str "image" :: ds))
  | img (d : PyData) : ratD d = false → BadW (.tuple [.str "image", d])
  | grwN (ds : List PyData) : ds.length ≠ 2 → BadW (.tuple (.str "grown" :: ds))
  | grw (d e : PyData) : (ratD d && ratD e) = false → BadW (.tuple [.str "grown", d, e])
  | other (z : Str) (ds : List PyData) : z ≠ "table" → z ≠ "image" → z ≠ "grown" → BadW (.tuple (.str z :: ds))
def spWish (K : PySem.W.Frag) : Sp := fun vs H Q _ => ∃ v d, vs = [v] ∧ DV K H v d ∧ ((GoodW d ∧ ∀ H', Same H H' → Q (.bl true) H') ∨ (BadW d ∧ ∀ H', Same H H' → Q (.bl false) H'))
theorem isLst_of {d : PyData} (h : isLstD d = true) : ∃ ds, d = .list ds := by
  cases d <;> first | exact ⟨_, rfl⟩ | cases h
theorem ne_ofG {K : PySem.W.Frag} {H : Hp} {x y : V} {o : Option Rat} {q : Rat} {σ : List (Option V)} {Q : VK} (hx : DV K H x (ofrD o)) (hy : DV K H y (frD q)) (k : Q (.bl (!decide (o = some q))) H) : tC y σ H (fun y H2 => rNeD K x y H2 Q) := by
  cases o with
  | none => exact ⟨.none, _, hx, hy, rfl, (flat_fr q).sh (by decide), k⟩
  | some p =>
    refine ne_frD hx hy ?_
    rw [show decide (p = q) = decide (some p = some q) from decide_eq_decide.mpr ⟨fun e => by rw [e], fun e => Option.some.inj e⟩]
    exact k
theorem eq_of {K : PySem.W.Frag} {H : Hp} {x y : V} {o : Option Rat} {q : Rat} {Q : VK} (hx : DV K H x (ofrD o)) (hy : DV K H y (frD q)) (k : Q (.bl (decide (o = some q))) H) : rEqD K x y H Q := by
  cases o with
  | none => exact ⟨.none, _, hx, hy, rfl, (flat_fr q).sh (by decide), k⟩
  | some p =>
    refine eq_frD hx hy ?_
    rw [show decide (p = q) = decide (some p = some q) from decide_eq_decide.mpr ⟨fun e => by rw [e], fun e => Option.some.inj e⟩]
    exact k
inductive Wish where
  | table (t : Tab)
  | image (q : Rat)
  | grown (q g : Rat)
def wishD : Wish → PyData
  | .table t => .tuple [.str "table", tabD t]
  | .image q => .tuple [.str "image", frD q]
  | .grown q g => .tuple [.str "grown", frD q, frD g]
def Wish.bd (n : Nat) : Wish → Prop
  | .table t => Tb n t ∧ t.det = 1
  | .image q => Bd n q
  | .grown q _ => Bd n q
theorem Wish.good {n : Nat} (hn : n ≤ 1900) : ∀ {w : Wish}, w.bd n → GoodW (wishD w)
  | .table t, h => .table t n h.1 hn h.2
  | .image q, _ => .image q
  | .grown q g, _ => .grown q g
def doesB (t : Tab) : Wish → Bool
  | .table u => decide (t = u)
  | .image q => decide (img t q = some 0)
  | .grown q g => decide (img t q = some 0) && decide (grw t q = some g)
def spDoes (K : PySem.W.Frag) : Sp := fun vs H Q _ => ∃ x y t wi n, vs = [x, y] ∧ DV K H x (tabD t) ∧ DV K H y (wishD wi) ∧ Tb n t ∧ t.det = 1 ∧ wi.bd n ∧ n ≤ 450 ∧ ∀ H', Same H H' → Q (.bl (doesB t wi)) H'
def glassN (zs : List Str) : Int := (zs.length : Int) - PySem.Spec.countIn (.str "") (zs.map PyData.str)
def spGlasses (K : PySem.W.Frag) : Sp := fun vs H Q _ => ∃ (l : Addr) (zs : List Str), vs = [.ref l] ∧ SqL K H l (zs.map V.str) ∧ Q (.int (glassN zs)) H
end Lib
namespace Lib
open PySem L2 Fr Op
theorem empty_cps : ((PySem.Str.ofString "") : Str).cps = #[] := by decide +kernel
theorem join_one : ∀ cs : List Nat, Str.join (PySem.Str.ofString "") (cs.map fun c => (⟨#[c]⟩ : Str)) = ⟨cs.toArray⟩
  | [] => rfl
  | [c] => rfl
  | c :: d :: r => by
    show ((⟨#[c]⟩ : Str) ++ (PySem.Str.ofString "") ++ Str.join (PySem.Str.ofString "") ((d :: r).map fun c => (⟨#[c]⟩ : Str)) : Str) = _
    rw [join_one (d :: r)]
    show (⟨(#[c] ++ (PySem.Str.ofString "" : Str).cps) ++ (d :: r).toArray⟩ : Str) = _
    rw [empty_cps]
    simp
theorem joinT_one (cs : List Nat) : Txt.join (PySem.Str.ofString "") (cs.map fun c => (⟨#[c]⟩ : Str)) = ⟨cs.toArray⟩ := (StrLaws.glued_eq_join _ _).trans (join_one cs)
theorem letS_get : ∀ j : Nat, j < 26 → letS.cps[j]? = some (97 + j) := by decide +kernel
theorem letS_len : letS.length = 26 := by decide +kernel
theorem letS_mem : ∀ j : Nat, j < 26 → (97 + j) ∈ letS.cps.toList := by decide +kernel
theorem inLet_of {j : Nat} (h : j < 26) : inLet ⟨#[97 + j]⟩ = true := by
  unfold inLet
  rw [StrLaws.found_one]
  exact decide_eq_true (letS_mem j h)
end Lib
namespace L2
open PySem PySem.Spec PyProof.Rows PySem.Builtin
end L2
namespace L2
open PySem PySem.Spec PyProof.Rows
end L2
namespace Lib
open PySem L2 Fr Op
def glassOf (st : List (Str × Rat)) (c : Str) : List Pc := (st.filter fun k => decide (k.1 = c)).map fun k => .glass k.2
def stepB (st : List (Str × Rat)) (p : Str × Rat) : List Pc := glassOf st p.1 ++ [.gap p.2]
def dueB (st : List (Str × Rat)) (g0 : Rat) (gs : List Rat) (cs : List Str) : List Pc := .gap g0 :: ((cs.zip gs).map (stepB st)).flatten
theorem noL_pc' (p : Pc) : noL (pcD p) = true := by cases p <;> rfl
structure Bx (K : PySem.W.Frag) (H1 : Hp) (p : Addr) (ps : List Pc) (Hx : Hp) : Prop where
  s : Same H1 Hx
  n : H1 p = none
  ex : ∃ xs, Hx p = some (.lst xs) ∧ DVs K Hx xs (ps.map pcD)
theorem same_but {H1 Hx : Hp} {p : Addr} (s : Same H1 Hx) (n : H1 p = none) (o : HO) : Same H1 (upd Hx p o) := fun b u e => by
  rw [upd_ne (ne_of_none e n)]
  exact s _ _ e
theorem Bx.more {K : PySem.W.Frag} {H1 Hx : Hp} {p : Addr} {ps qs : List Pc} {xs zs : List V} (s : Same H1 Hx) (n : H1 p = none) (h1 : Hx p = some (.lst xs)) (h2 : DVs K Hx xs (ps.map pcD)) (h3 : DVs K Hx zs (qs.map pcD)) : Bx K H1 p (ps ++ qs) (upd Hx p (.lst (xs ++ zs))) := by
  refine ⟨same_but s n _, n, xs ++ zs, upd_same, ?_⟩
  rw [List.map_append]
  exact dvs_keepT (sameT_upd h1 _) (by rw [← List.map_append]; exact noLs_map noL_pc' _) (h2.append h3)
theorem glass_take {st : List (Str × Rat)} {c : Str} {i : Nat} {k : Str × Rat} (h : st[i]? = some k) : glassOf (st.take (i + 1)) c = glassOf (st.take i) c ++ (if decide (k.1 = c) = true then [.glass k.2] else []) := by
  unfold glassOf
  rw [List.take_add_one, h, List.filter_append, List.map_append]
  by_cases e : k.1 = c
  · rw [if_pos (decide_eq_true e)]
    simp [e]
  · rw [if_neg (by rw [decide_eq_true_eq]; exact e)]
    simp [e]
def spPieces (K : PySem.W.Frag) (C : Addr) : Sp := fun vs H Q _ => ∃ (x : V) (st : List (Str × Rat)) (c : Str), vs = [x, .str c] ∧ ShopAt K C H x st ∧ st.length ≤ 4 ∧ ∀ p xs H', Same H H' → H p = none → H' p = some (.lst xs) → DVs K H' xs ((glassOf st c).map pcD) → Q (.ref p) H'
theorem glass_le (st : List (Str × Rat)) (c : Str) : (glassOf st c).length ≤ st.length := by
  unfold glassOf
  rw [List.length_map]
  exact List.length_filter_le _ _
theorem due_succ (st : List (Str × Rat)) (g0 : Rat) {gs : List Rat} {cs : List Str} {i : Nat} {c : Str} {g : Rat} (hc : cs[i]? = some c) (hg : gs[i]? = some g) :
    dueB st g0 (gs.take (i + 1)) (cs.take (i + 1)) = dueB st g0 (gs.take i) (cs.take i) ++ stepB st (c, g) := by
  unfold dueB
  have h1 := lt_of_get hc
  have h2 := lt_of_get hg
  rw [List.take_add_one, List.take_add_one, hc, hg]
  show Pc.gap g0 :: (((cs.take i ++ [c]).zip (gs.take i ++ [g])).map (stepB st)).flatten = _
  rw [List.zip_append (by rw [List.length_take, List.length_take]; omega), List.map_append, List.flatten_append]
  show _ = Pc.gap g0 :: (_ ++ _)
  congr 2
  show [stepB st (c, g)].flatten = _
  rw [List.flatten_cons, List.flatten_nil, List.append_nil]
theorem due_len (st : List (Str × Rat)) (g0 : Rat) (gs : List Rat) (cs : List Str) : (dueB st g0 gs cs).length ≤ 1 + cs.length * (st.length + 1) := by
  unfold dueB
  rw [List.length_cons]
  have : ∀ l : List (Str × Rat), ((l.map (stepB st)).flatten).length ≤ l.length * (st.length + 1) := by
    intro l
    induction l with
    | nil => simp
    | cons p l ih =>
      rw [List.map_cons, List.flatten_cons, List.length_append, List.length_cons, Nat.succ_mul]
      have h1 : (stepB st p).length ≤ st.length + 1 := by
        unfold stepB
        rw [List.length_append, List.length_singleton]
        have := glass_le st p.1
        omega
      omega
  have h1 := this (cs.zip gs)
  have h2 : (cs.zip gs).length ≤ cs.length := by rw [List.length_zip]; exact Nat.min_le_left _ _
  have h3 : (cs.zip gs).length * (st.length + 1) ≤ cs.length * (st.length + 1) := Nat.mul_le_mul_right _ h2
  omega
end Lib
namespace Lib
open PySem L2 Fr Op
end Lib
namespace Lib
open PySem L2 Fr Op
end Lib
namespace Lib
open PySem L2 Fr Op
end Lib
namespace L2
open PySem PySem.Spec PyProof.Rows
section
variable {κ : Type} [DecidableEq κ]
def valV (kvs : List (κ × V)) (k : κ) : Option V := (kvs.find? fun kv => decide (kv.1 = k)).map (·.2)
def putK (kvs : List (κ × V)) (k : κ) (v : V) : List (κ × V) :=
  if (kvs.any fun kv => decide (kv.1 = k)) = true then kvs.map (fun kv => if kv.1 = k then (kv.1, v) else kv) else kvs ++ [(k, v)]
theorem valV_pos {p : κ × V} {r : List (κ × V)} {k : κ} (e : p.1 = k) : valV (p :: r) k = some p.2 := by simp [valV, List.find?_cons, e]
theorem valV_neg {p : κ × V} {r : List (κ × V)} {k : κ} (e : ¬ p.1 = k) : valV (p :: r) k = valV r k := by simp [valV, List.find?_cons, e]
theorem valV_any (k : κ) : ∀ kvs : List (κ × V), (kvs.any fun kv => decide (kv.1 = k)) = (valV kvs k).isSome
  | [] => rfl
  | p :: r => by
    rw [List.any_cons]
    by_cases e : p.1 = k
    · simp only [valV_pos e, decide_eq_true e, Bool.true_or, Option.isSome_some]
    · rw [valV_neg e, decide_eq_false e, Bool.false_or]; exact valV_any k r
theorem valV_map (k j : κ) (y : V) : ∀ kvs : List (κ × V), valV (kvs.map fun kv => if kv.1 = k then (kv.1, y) else kv) j = (valV kvs j).map fun x => if j = k then y else x
  | [] => rfl
  | p :: r => by
    have ih := valV_map k j y r
    rw [List.map_cons]
    by_cases h : p.1 = k
    · rw [if_pos h]
      by_cases e : p.1 = j
      · rw [valV_pos (p := (p.1, y)) e, valV_pos e, Option.map_some, if_pos (e.symm.trans h)]
      · rw [valV_neg (p := (p.1, y)) e, valV_neg e, ih]
    · rw [if_neg h]
      by_cases e : p.1 = j
      · rw [valV_pos (p := p) e, valV_pos e, Option.map_some, if_neg (fun z => h (e.trans z))]
      · rw [valV_neg (p := p) e, valV_neg e, ih]
theorem valV_snoc (k j : κ) (y : V) : ∀ kvs : List (κ × V), valV kvs k = none → valV (kvs ++ [(k, y)]) j = if j = k then some y else valV kvs j
  | [], _ => by
    by_cases e : k = j
    · rw [if_pos e.symm]; exact valV_pos (p := (k, y)) e
    · rw [if_neg (fun z => e z.symm)]; exact valV_neg (p := (k, y)) e
  | p :: r, hn => by
    rw [List.cons_append]
    have hk : ¬ p.1 = k := fun z => by rw [valV_pos z] at hn; cases hn
    rw [valV_neg hk] at hn
    have ih := valV_snoc k j y r hn
    by_cases e : p.1 = j
    · rw [valV_pos e, valV_pos e, if_neg (fun z => hk (e.trans z))]
    · rw [valV_neg e, valV_neg e, ih]
theorem valV_put (kvs : List (κ × V)) (k j : κ) (y : V) : valV (putK kvs k y) j = if j = k then some y else valV kvs j := by
  unfold putK
  by_cases a : (kvs.any fun kv => decide (kv.1 = k)) = true
  · rw [if_pos a, valV_map]
    rw [valV_any] at a
    by_cases e : j = k
    · obtain ⟨x, hx⟩ := Option.isSome_iff_exists.mp a
      rw [if_pos e, e, hx, Option.map_some, if_pos rfl]
    · rw [if_neg e]
      cases valV kvs j with
      | none => rfl
      | some x => rw [Option.map_some, if_neg e]
  · rw [if_neg a]
    refine valV_snoc k j y kvs ?_
    rw [valV_any] at a
    cases q : valV kvs k with
    | none => rfl
    | some x => rw [q] at a; exact (a rfl).elim
theorem length_putK (kvs : List (κ × V)) (k : κ) (v : V) : (putK kvs k v).length ≤ kvs.length + 1 := by
  unfold putK
  split
  · rw [List.length_map]; omega
  · rw [List.length_append, List.length_cons, List.length_nil]; omega
theorem KV.val {kvs : List (κ × V)} {vs : List (κ × Value)} (r : KV kvs vs) (k : κ) : RelO (valV kvs k) (valueAt vs k) := by
  unfold KV at r
  induction r with
  | nil => exact True.intro
  | @cons p q ps qs h t ih =>
    obtain ⟨h1, h2⟩ := h
    by_cases e : p.1 = k
    · have e' : q.1 = k := h1.symm.trans e
      have b : valueAt (q :: qs) k = some q.2 := by simp [valueAt, List.find?_cons, e']
      rw [valV_pos e, b]; exact h2
    · have e' : ¬ q.1 = k := fun z => e (h1.trans z)
      have b : valueAt (q :: qs) k = valueAt qs k := by simp [valueAt, List.find?_cons, e']
      rw [valV_neg e, b]; exact ih
theorem KV.any {kvs : List (κ × V)} {vs : List (κ × Value)} (r : KV kvs vs) (k : κ) : (kvs.any fun kv => decide (kv.1 = k)) = vs.any fun kv => decide (kv.1 = k) := by
  unfold KV at r
  induction r with
  | nil => rfl
  | cons h t ih => rw [List.any_cons, List.any_cons, ih, h.1]
theorem KV.repl {kvs : List (κ × V)} {vs : List (κ × Value)} (r : KV kvs vs) (k : κ) {y : V} {u : Value} (ry : RelV y u) :
    KV (kvs.map fun kv => if kv.1 = k then (kv.1, y) else kv) (vs.map fun kv => if kv.1 = k then (kv.1, u) else kv) := by
  unfold KV at r ⊢
  induction r with
  | nil => exact .nil
  | @cons p q ps qs h t ih =>
    rw [List.map_cons, List.map_cons]
    refine .cons ?_ ih
    obtain ⟨h1, h2⟩ := h
    by_cases e : p.1 = k
    · rw [if_pos e, if_pos (h1.symm.trans e)]; exact ⟨h1, ry⟩
    · rw [if_neg e, if_neg (fun z => e (h1.trans z))]; exact ⟨h1, h2⟩
theorem KV.put {kvs : List (κ × V)} {vs : List (κ × Value)} (r : KV kvs vs) (k : κ) {y : V} {u : Value} (ry : RelV y u) : KV (putK kvs k y) (stored vs k u) := by
  unfold putK stored
  rw [r.any k]
  by_cases e : (vs.any fun kv => decide (kv.1 = k)) = true
  · rw [if_pos e, if_pos e]; exact r.repl k ry
  · rw [if_neg e, if_neg e]; exact Paired.snoc r ⟨rfl, ry⟩
end
theorem kV_is {P : Program} {w : World} {k : Key} {u : Value} (r : RelV (kV k) u) : (mixKind P w).is k u = true := by
  cases k with
  | inl i => obtain ⟨t, e⟩ := (show ∃ t, u = Value.int i t from r); subst e; exact mixKind_int P w i t
  | inr x => obtain ⟨t, e⟩ := (show ∃ t, u = Value.str x t from r); subst e; exact mixKind_str P w x t
theorem items_are {P : Program} {w : World} : ∀ {ks : List Key} {us : List Value}, Vals (ks.map kV) us → ItemsAre (mixKind P w) ks us
  | [], _, r => by rw [List.map_nil] at r; cases r; exact .nil
  | k :: ks, _, r => by
    rw [List.map_cons] at r
    cases r with
    | cons h t => exact .cons (kV_is h) (items_are t)
abbrev KT (H : Hp) : List (List Key × V) → List (List Key × Addr × Value) → Prop := Paired fun p q => p.1 = q.1 ∧ H q.2.1 = some (.tup (p.1.map kV)) ∧ RelV p.2 q.2.2
theorem KT.val {H : Hp} {kvs : List (List Key × V)} {xs : List (List Key × Addr × Value)} (r : KT H kvs xs) (k : List Key) : RelO (valV kvs k) ((atKey xs k).map (·.2)) := by
  induction r with
  | nil => exact True.intro
  | @cons p q ps qs h t ih =>
    obtain ⟨h1, _, h2⟩ := h
    by_cases e : p.1 = k
    · have e' : q.1 = k := h1.symm.trans e
      have b : atKey (q :: qs) k = some q.2 := by simp [atKey, List.find?_cons, e']
      rw [valV_pos e, b]; exact h2
    · have e' : ¬ q.1 = k := fun z => e (h1.trans z)
      have b : atKey (q :: qs) k = atKey qs k := by simp [atKey, List.find?_cons, e']
      rw [valV_neg e, b]; exact ih
section
variable {P : Program} {w : World} {H : Hp} {h : Heap} {a : Addr}
theorem rd_of {u : HO} (ok : HOk P w H h) (e : Rd H a u) : ObjOk P w H h a u := e.ok ok
theorem dk_rd {kvs : List (Key × V)} (ok : HOk P w H h) (e : Rd H a (.dK kvs)) : kvs.length ≤ sizeLine ∧ (a == sysModules) = false ∧ ∃ vs, KV kvs vs ∧ h.DictOf (mixKind P w) a vs :=
  show ObjOk P w H h a (.dK kvs) from rd_of ok e
theorem key_of {ks : List Key} (ok : HOk P w H h) (e : H a = some (.tup (ks.map kV))) : (tupleKind (mixKind P w)).is h ks a := by
  obtain ⟨_, its, r, o, h1, h2, n, h3⟩ := (show ObjOk P w H h a (.tup (ks.map kV)) from ok a _ e)
  exact ⟨o, its.toArray, n, h1, h2, h3, by simpa using items_are r⟩
theorem dt_rd {kvs : List (List Key × V)} (ok : HOk P w H h) (e : Rd H a (.dT kvs)) : kvs.length ≤ sizeLine ∧ (a == sysModules) = false ∧
    ∃ xs, KT H kvs xs ∧ h.DictOfH (tupleKind (mixKind P w)) a xs := by
  obtain ⟨z, y, xs, r, o, es, ep, h1, h2, h3, h4, h5⟩ := (show ObjOk P w H h a (.dT kvs) from rd_of ok e)
  refine ⟨z, y, xs, r, o, es, ep, h1, h2, h3, h4, fun x hx => ?_, h5⟩
  have all : ∀ {l : List (List Key × V)} {m : List (List Key × Addr × Value)}, KT H l m → ∀ x ∈ m, (tupleKind (mixKind P w)).is h x.1 x.2.1 := by
    intro l m q
    induction q with
    | nil => intro x hx; exact nomatch hx
    | @cons p q ps qs hq t ih =>
      intro x hx
      rcases List.mem_cons.mp hx with e | hx
      · subst e
        exact key_of ok (by rw [← hq.1]; exact hq.2.1)
      · exact ih x hx
  exact all r x hx
end
def DGet (H : Hp) (a : Addr) (y : V) (r : Option V) : Prop :=
  (∃ kvs k, Rd H a (.dK kvs) ∧ y = kV k ∧ r = valV kvs k) ∨ ∃ kvs k b, Rd H a (.dT kvs) ∧ y = .ref b ∧ H b = some (.tup (k.map kV)) ∧ r = valV kvs k
theorem DGet.k {H : Hp} {a : Addr} {kvs : List (Key × V)} {k : Key} (e : H a = some (.dK kvs)) : DGet H a (kV k) (valV kvs k) := .inl ⟨kvs, k, .inl e, rfl, rfl⟩
section
variable {X : Cx} {pins : List (Addr × Obj)} {σ : St} {H : Hp} {s : Shared} {a : Addr} {y v : V} {u r : Value} {o : Option V} {A : Around} {E : Value → Shared → Prop}
theorem Inv.big (I : Inv X pins σ H s) : sysModules < s.heap.objs.size := by
  have h : mainGlobals < s.heap.objs.size := (I.mod.glob.keeps I.bk).lt
  exact Nat.lt_trans (by decide) h
theorem d_getItem {Q : Value → Shared → Prop} (hu : A.units + 1 < cLine) (I : Inv X pins σ H s) (g : DGet H a y (some v)) (ry : RelV y u) (h : ∀ w' s', Inv X pins σ H s' → RelV v w' → Q w' s') :
    wpAny (model X.prog X.w) A (getItem (.ref a) u) Q E s := by
  rcases g with ⟨kvs, k, e, ey, l⟩ | ⟨kvs, k, b, e, ey, eb, l⟩
  · subst ey
    obtain ⟨z, hd, vs, rel, dd⟩ := dk_rd I.hok e
    obtain ⟨w', hw, rw'⟩ := RelO.some_of (v := v) (o := valueAt vs k) (by rw [l]; exact rel.val k)
    exact wpAny_getItem_of (kV_is ry) dd.mapOf hw (h w' _ (I.tok _) rw')
  · subst ey
    cases (show u = Value.ref b from ry)
    obtain ⟨z, hd, xs, rel, dd⟩ := dt_rd I.hok e
    obtain ⟨w', hw, rw'⟩ := RelO.some_of (v := v) (o := (atKey xs k).map (·.2)) (by rw [l]; exact rel.val k)
    obtain ⟨p, hp, hp2⟩ := Option.map_eq_some_iff.mp hw
    refine wpAny_getItem_heap (tupleKind_room_in1 hu) (key_of I.hok eb) dd hp ?_
    rw [hp2]
    exact h w' _ (I.tok _) rw'
theorem dk_new {P : Program} {w : World} {H' : Hp} {h' : Heap} {kvs : List (Key × V)} {vs : List (Key × Value)} (z : kvs.length ≤ sizeLine) (hd : (a == sysModules) = false) (rel : KV kvs vs) (dd : h'.DictOf (mixKind P w) a vs) :
    ObjOk P w H' h' a (.dK kvs) := ⟨z, hd, vs, rel, dd⟩
end
def NoSl (i : Expr) : Prop := ∀ ov iv, subscripted i false ov iv = operate [ov, iv] (getItem ov iv)
theorem subD_of {prog : Program} {w : World} {A : Around} {E : Value → Shared → Prop} {s : Shared} {env : Env} {value slice : Expr} {pos : Pos} {T id : String} {Q : Value → Shared → Prop}
    (hl : typeLookup (.type T) "__getitem__" = pure (some (.builtin id))) (hs : NoSl slice)
    (h : wpAny (model prog w) A (eval value env) (fun o s₁ => wpAny (model prog w) A (eval slice env) (fun i s₂ => s₂.TypeIs o T ∧ wpAny (model prog w) A (getItem o i) Q E s₂) E s₁) E s) :
    wpAny (model prog w) A (eval (.Subscript value slice pos) env) Q E s := by
  refine Subscript_ (wpAny_mono h (fun o s₁ h₁ => wpAny_mono h₁ (fun i s₂ h₂ => ?_) fun _ _ x => x) fun _ _ x => x)
  obtain ⟨hT, h₂⟩ := h₂
  unfold subscriptTail
  refine wpAny_bind ?_
  rw [getitemInPython_of_ne hT.not_modules]
  refine wpAny_bind (wpAny_specialOf hT hl ?_)
  have fin : wpAny (model prog w) A (subscripted slice false o i) (fun r s₃ => wpAny (model prog w) A (letTemporaryGo value o r >>= fun _ => pure r) Q E s₃) E s₂ := by
    rw [hs o i]
    exact wpAny_operating (wpAny_mono h₂ (fun r s₃ h₃ => wpAny_bind (wpAny_letTemporaryGo (wpAny_pure h₃))) fun _ _ x => x)
  first
    | exact wpAny_pure (wpAny_bind fin)
    | exact wpAny_bind (wpAny_pure (wpAny_bind fin))
    | exact wpAny_bind fin
theorem dict_typeIs {X : Cx} {pins : List (Addr × Obj)} {σ : St} {H : Hp} {s : Shared} {a : Addr} {y : V} {o : Option V} (I : Inv X pins σ H s) (g : DGet H a y o) : s.TypeIs (.ref a) "dict" := by
  rcases g with ⟨kvs, k, e, _, _⟩ | ⟨kvs, k, b, e, _, _, _⟩
  · obtain ⟨_, _, vs, _, dd⟩ := dk_rd I.hok e
    exact dd.typeIs
  · obtain ⟨_, _, xs, _, dd⟩ := dt_rd I.hok e
    exact dd.typeIs
def tDGet (td ty : TE) : TE := fun σ H Q => td σ H fun x H1 => ty σ H1 fun y H2 => ∃ a v, x = .ref a ∧ DGet H2 a y (some v) ∧ Q v H2
section
variable {X : Cx} {o i e value : Expr} {pos pos' tpos : Pos} {td ty tv : TE}
theorem pe_dget (hu : X.A.units + 1 < cLine) (ho : PE X o td) (hi : PE X i ty) (hs : NoSl i) : PE X (.Subscript o i pos) (tDGet td ty) := by
  intro pins s σ H Q I h
  refine subD_of PySem.F.slot_dict_getitem.lookup hs (thn (ho pins s σ H _ I h) fun u s1 ⟨x, H1, I1, rx, q1⟩ => thn (hi pins s1 σ H1 _ I1 q1) fun iv s2 ⟨y, H2, I2, ry, a, v, ex, g, q2⟩ => ?_)
  subst ex
  obtain rfl : u = Value.ref a := rx
  exact ⟨dict_typeIs I2 g, d_getItem hu I2 g ry fun w' s3 I3 rw' => ⟨v, H2, I3, rw', q2⟩⟩
end
def mergeK (kvs more : List (Key × V)) : List (Key × V) := more.foldl (fun acc kv => putK acc kv.1 kv.2) kvs
theorem length_mergeK : ∀ (more kvs : List (Key × V)), (mergeK kvs more).length ≤ kvs.length + more.length
  | [], kvs => by show kvs.length ≤ kvs.length + 0; omega
  | p :: r, kvs => by
    have h1 := length_mergeK r (putK kvs p.1 p.2)
    have h2 := length_putK kvs p.1 p.2
    show (mergeK (putK kvs p.1 p.2) r).length ≤ _
    rw [List.length_cons]; omega
end L2
namespace L2
open PySem PySem.Spec PyProof.Rows
end L2
namespace PySem
open Sem (wp)
theorem keys_miss : typeLookup (.type "list") "keys" = pure none := am_miss_of_fast (by decide +kernel)
theorem getAttrQ_keys_list {prog : Program} {w : World} {A : Around} {E : Value → Shared → Prop} {s : Shared} {a : Addr} {o : Obj} {xs : Array Value} {k : Nat} {Q : Option Value → Shared → Prop}
    (hx : s.heap.get? a = some o) (hc : o.cls = .type "list") (hdat : o.data = .seq xs k) (hd : o.dict = none) (hA : A.handled = none)
    (h : ∀ h' tk e, Heap.NewExcOf s.heap h' e "AttributeError" → Q none { s with heap := h', toks := tk }) :
    wpAny (model prog w) A (getAttr? (.ref a) "keys") Q E s := by
  obtain ⟨c, dct, dat, sl⟩ := o
  simp only at hc hdat hd
  subst hc hdat hd
  obtain ⟨hp, g, d, tk, os⟩ := s
  have hT : ∀ tk', (⟨hp, g, d, tk', os⟩ : Shared).TypeIs (.ref a) "list" := fun _ => ⟨_, hx, rfl⟩
  have f1 := sub_AttributeError
  have f3 := F.slot_list_getattribute.lookup
  have f4 := F.slot_list_getattribute.bind (.ref a)
  have f5 := am_list_getattr_none
  unfold getAttr? getAttrBy? getAttrBy
  repeat (any_goals (first | assumption | exact hT _ | ((with_reducible show wpAny _ _ (call (Value.builtin "list.__getattribute__") _ _) _ _ _); refine call_meets F.slot_list_getattribute (hT _) am_entry_list_getattribute (F.args_list_getattribute_2 _ _) (meets_getattribute_miss_list a xs k sl "keys" _ keys_miss (by decide +kernel)) ⟨hx, hA, fun h' tk' e hx' => ?_⟩) | wp_step))
  obtain ⟨t', u', he⟩ := hx'.there
  show wpAny _ _ (getattributeRaised _ _ _ _ _ _ _) _ _ _
  unfold getattributeRaised
  repeat (any_goals (first | assumption | wp_step))
  exact h _ _ _ hx'.of
end PySem
namespace L2
open PySem PySem.Spec PyProof.Rows PySem.Builtin
theorem entry_dict_update_loop : entryFor table "dict.update.loop" = some Builtin.«dict.update.loop» := entryFor_of_tree (by kernel_rfl)
theorem plain_dict_update_loop : plainId "dict.update.loop" = true := by decide +kernel
def heldP (ks : Nat → Str) (vv : Nat → Value) : Nat → List (Key × Value)
  | 0 => []
  | i + 1 => stored (heldP ks vv i) (.inr (ks i)) (vv i)
theorem heldP_le (ks : Nat → Str) (vv : Nat → Value) : ∀ i, (heldP ks vv i).length ≤ i
  | 0 => Nat.le_refl _
  | i + 1 => by
    have := heldP_le ks vv i
    show (stored _ _ _).length ≤ _
    unfold stored
    split
    · rw [List.length_map]; omega
    · rw [List.length_append, List.length_singleton]; omega
section
variable {prog : Program} {w : World} {A : Around} {R : Result → Shared → Prop} {I : Addr} {fp wr : List Addr} {G : Array GenState → Array GenState → Prop} {n : Nat} {P : Nat → Value → Prop} {St : Nat → Shared → Prop}
theorem dict_loop (W : WalksS prog w A.in1 I fp wr G n P St) (D : Addr) (hDf : D ∉ fp) (ks : Nat → Str) (tk : Nat → Tok) (vv : Nat → Value) (ta : Nat → Addr) (hval : ∀ i v, P i v → v = .ref (ta i))
    (hta : ∀ i, i < n → ta i ≠ D ∧ ta i ∉ wr) (hb : n ≤ sizeLine) :
    ∀ (k i : Nat) (s : Shared), n - i = k → i ≤ n → St i s → s.heap.DictOf (mixKind prog w) D (heldP ks vv i) → (∀ j, j < n → IsTup s.heap (ta j) #[.str (ks j) (tk j), vv j]) →
      (∀ s', Moved (D :: wr) G s s' → s'.heap.DictOf (mixKind prog w) D (heldP ks vv n) → R (.ok (.ret .none)) s') →
      codeAny (model prog w) A (.builtin "dict.update.loop" ⟨[.ref D, .ref I, rawInt (i : Int), .none], []⟩) R s := by
  have hDw : D ∉ wr := fun h => hDf (W.sub _ h)
  have hsub : ∀ b ∈ wr, b ∈ D :: wr := fun b hb => List.mem_cons_of_mem _ hb
  intro k
  induction k with
  | zero =>
    intro i s hk hi hst hS ht hR
    have hin : i = n := by omega
    subst hin
    refine codeAny_builtin entry_dict_update_loop ?_
    rw [Around.under_plainId plain_dict_update_loop _]
    show wpAny _ A.in1 (pyNext (.ref I) >>= _) _ _ s
    refine wpAny_bind (W.done s _ _ hst fun s' hm => ?_)
    show wpAny _ A.in1 (Builtin.Dict.addKeywords D [] >>= _) _ _ s'
    refine wpAny_bind (wpAny_pure ?_)
    show wpAny _ A.in1 (ret Value.none) _ _ s'
    refine wpAny_pure (hR s' (hm.mono hsub) ?_)
    obtain ⟨o, es, ep, ho, rest⟩ := hS
    exact ⟨o, es, ep, hm.heap D o hDw ho, rest⟩
  | succ k ih =>
    intro i s hk hi hst hS ht hR
    have hlt : i < n := by omega
    refine codeAny_builtin entry_dict_update_loop ?_
    rw [Around.under_plainId plain_dict_update_loop _]
    show wpAny _ A.in1 (pyNext (.ref I) >>= _) _ _ s
    refine wpAny_bind (W.item i s _ _ hlt hst fun v s' hP hst' hm => ?_)
    obtain rfl := hval i v hP
    have hS' : s'.heap.DictOf (mixKind prog w) D (heldP ks vv i) := by
      obtain ⟨o, es, ep, ho, rest⟩ := hS
      exact ⟨o, es, ep, hm.heap D o hDw ho, rest⟩
    have ht' : ∀ j, j < n → IsTup s'.heap (ta j) #[.str (ks j) (tk j), vv j] := fun j hj => by
      obtain ⟨o, ho, rest⟩ := ht j hj
      exact ⟨o, hm.heap _ o (hta j hj).2 ho, rest⟩
    obtain ⟨o, ho, hcl, nn, hdt⟩ := ht' i hlt
    have hT : s'.TypeIs (.ref (ta i)) "tuple" := ⟨o, ho, hcl⟩
    show wpAny _ A.in1 (holding [Value.ref (ta i)] _ >>= _) _ _ s'
    refine wpAny_bind (wpAny_holding ?_)
    refine wpAny_bind (wpAny_tryCatch ?_)
    unfold Builtin.Dict.pairItems
    refine wpAny_bind (wpAny_typeOf hT ?_)
    rw [if_pos (by decide)]
    refine wpAny_bind (wpAny_seqItems ho hdt (wpAny_pure ?_))
    show wpAny _ A.in1 (holding [Value.str (ks i) (tk i), vv i] (dictSet D (.str (ks i) (tk i)) (vv i))) _ _ s'
    refine wpAny_holding ?_
    have hroom : (heldP ks vv i).length ≤ sizeLine := by have := heldP_le ks vv i; omega
    refine wpAny_dictSet_pairs (hsz := hroom) (k := .inr (ks i)) (mixKind_str _ _ _ _) hS' fun h' hS2 hsb => ?_
    refine wpAny_pure ⟨plainId_quiet plain_dict_update_loop _, ?_⟩
    show codeAny _ A (.builtin "dict.update.loop" ⟨[.ref D, .ref I, rawInt ((i : Int) + 1), .none], []⟩) R _
    rw [show ((i : Int) + 1) = ((i + 1 : Nat) : Int) by omega]
    refine ih (i + 1) _ (by omega) hlt (W.frame _ s' _ _ hst' (Nat.le_succ _) fun b hb o e => ?_) hS2 (fun j hj => ?_) fun s'' hm'' hS'' => ?_
    · rw [hsb.2 b (fun h : b = D => hDf (by rw [← h]; exact hb))]; exact e
    · obtain ⟨o, ho, rest⟩ := ht' j hj
      exact ⟨o, by rw [hsb.2 _ (hta j hj).1]; exact ho, rest⟩
    · refine hR s'' (Moved.trans W.gtrans ((hm.mono hsub).then_heap (Nat.le_succ _) fun b o hb e => ?_) hm'') hS''
      rw [hsb.2 b (fun h : b = D => hb (by rw [h]; exact List.mem_cons_self))]; exact e
end
section
variable {prog : Program} {w : World} {A : Around} {E : Value → Shared → Prop} {s : Shared}
theorem call_dict_pairs {l : Addr} {items : Array Value} {ks : Nat → Str} {tk : Nat → Tok} {vv : Nat → Value} {ta : Nat → Addr} {Q : Value → Shared → Prop}
    (hh : A.handled = none) (hl : PlainL s.heap l items) (hi : ∀ i v, items[i]? = some v → v = Value.ref (ta i)) (ht : ∀ j, j < items.size → IsTup s.heap (ta j) #[.str (ks j) (tk j), vv j]) (hb : items.size ≤ sizeLine)
    (h : ∀ (h' : Heap) (tk' : Nat), h'.DictOf (mixKind prog w) s.heap.objs.size (heldP ks vv items.size) →
      (∀ b o, s.heap.get? b = some o → h'.get? b = some o) → Q (.ref s.heap.objs.size) { s with heap := h', toks := tk' }) :
    wpAny (model prog w) A (call (.type "dict") [.ref l]) Q E s := by
  refine callType_codes (Q₁ := fun obj s₁ => obj = .ref s.heap.objs.size ∧ s₁ = { s with heap := s.heap.push { cls := .type "dict", data := .dict #[] } }) F.kt_called_dict (F.kt_typeCall_dict_1 _) F.entry_dict_init (kt_code_dict_new _ ⟨rfl, rfl⟩) ?_
  rintro obj s₁ ⟨rfl, rfl⟩
  have hnew : (s.heap.push { cls := .type "dict", data := .dict #[] }).DictOf (mixKind prog w) s.heap.objs.size [] := Heap.DictOf.new s.heap
  obtain ⟨ol, nl, hol, hcl, hdl, hdat⟩ := hl
  have hlt : l < s.heap.objs.size := Heap.lt_size hol
  have hol' : (s.heap.push { cls := .type "dict", data := .dict #[] }).get? l = some ol := Heap.get?_push_of_some _ hol
  have hT : Shared.TypeIs { s with heap := s.heap.push { cls := .type "dict", data := .dict #[] } } (.ref l) "list" := ⟨_, hol', hcl⟩
  refine ⟨hnew.typeIs, F.args_dict_init_2 _ _, ?_⟩
  unfold Builtin.«dict.__init__»
  refine wpAny_bind ?_
  unfold Builtin.Dict.selfAndRest
  refine wpAny_bind (wpAny_notOrdered_dict hnew.typeIs ?_)
  show wpAny _ _ (pure (s.heap.objs.size, [Value.ref l])) _ _ _
  refine wpAny_pure ?_
  show wpAny _ _ (Builtin.Dict.updateFrom "dict.__init__" s.heap.objs.size (.ref l) [] .none) _ _ _
  unfold Builtin.Dict.updateFrom
  refine wpAny_bind (wpAny_typeOf hT ?_)
  rw [if_pos (by decide)]
  have hh2 : A.in1.in1.handled = none := by simp [hh]
  refine wpAny_bind (getAttrQ_keys_list hol' hcl hdat hdl hh2 fun h1 tk1 e1 ne => ?_)
  rw [if_pos (show (none : Option Value).isNone = true from rfl)]
  refine wpAny_bind (wpAny_rule ?_)
  have hk1 : ∀ b o, s.heap.get? b = some o → h1.get? b = some o := fun b o e => ne.keeps b o (Heap.get?_push_of_some _ e)
  have hl1 : h1.IsList l items := ⟨ol, ne.keeps _ _ hol', hcl, nl, hdat⟩
  have hd1 : h1.DictOf (mixKind prog w) s.heap.objs.size [] := by
    obtain ⟨o, es, ep, ho, rest⟩ := hnew
    exact ⟨o, es, ep, ne.keeps _ _ ho, rest⟩
  refine wpAny_bind (wpAny_pyIter_list hl1 ?_)
  refine wpAny_pure ⟨plainId_quiet plain_dict_update_loop _, ?_⟩
  have hsD : s.heap.objs.size < h1.objs.size := by
    obtain ⟨o, es, ep, ho, _⟩ := hd1
    exact Heap.lt_size ho
  have hlh : l < h1.objs.size := Heap.lt_size (hk1 _ _ hol)
  have hDf : s.heap.objs.size ∉ [h1.objs.size, l] := by
    simp only [List.mem_cons, List.mem_singleton, List.not_mem_nil, or_false, not_or]
    exact ⟨Nat.ne_of_lt hsD, Nat.ne_of_gt hlt⟩
  have hh3 : A.in1.in1.handled = none := hh2
  have hT0 : ∀ j, j < items.size → ta j < s.heap.objs.size := fun j hj => by
    obtain ⟨o, ho, _⟩ := ht j hj
    exact Heap.lt_size ho
  refine dict_loop (A := A.in1) ((Walks.list hh3 _ l (Nat.ne_of_lt hlh) items).toS) s.heap.objs.size hDf ks tk vv ta hi (fun j hj => ⟨Nat.ne_of_lt (hT0 j hj), ?_⟩) hb (items.size - 0) 0 _ (by omega) (Nat.zero_le _) ⟨⟨_, Heap.get?_push_size _ rfl, rfl, rfl⟩, hl1.push _⟩ (hd1.push _) (fun j hj => ?_) fun s' hm hD => ?_
  · have := hT0 j hj
    intro hc
    simp only [List.mem_cons, List.mem_singleton, List.not_mem_nil, or_false] at hc
    exact absurd hc (Nat.ne_of_lt (Nat.lt_trans this hsD))
  · obtain ⟨o, ho, rest⟩ := ht j hj
    exact ⟨o, Heap.get?_push_of_some _ (hk1 _ _ ho), rest⟩
  · obtain ⟨h', g', d', tk', os'⟩ := s'
    have eg : g' = s.gens := hm.gens
    have ed : d' = s.drawn := hm.drawn
    have eo : os' = s.os := hm.os
    subst eg; subst ed; subst eo
    refine ⟨rfl, h h' tk' hD fun b o e => ?_⟩
    have hlb : b < s.heap.objs.size := Heap.lt_size e
    refine hm.heap b o ?_ (Heap.get?_push_of_some _ (hk1 _ _ e))
    simp only [List.mem_cons, List.mem_singleton, List.not_mem_nil, or_false, not_or]
    exact ⟨Nat.ne_of_lt hlb, Nat.ne_of_lt (Nat.lt_trans hlb hsD)⟩
def pairsK (kvs : List (Str × V)) : List (Key × V) := kvs.map fun kv => (.inr kv.1, kv.2)
def heldV (kvs : List (Str × V)) : List (Key × V) := mergeK [] (pairsK kvs)
inductive PairsAt (K : PySem.W.Frag) (H : Hp) : List V → List (Str × V) → Prop
  | nil : PairsAt K H [] []
  | cons {t : Addr} {z : Str} {v : V} {xs : List V} {kvs : List (Str × V)} : SqT K H t [.str z, v] → PairsAt K H xs kvs → PairsAt K H (.ref t :: xs) ((z, v) :: kvs)
variable {X : Cx}
theorem pairs_get {K : PySem.W.Frag} {H : Hp} : ∀ {xs : List V} {kvs : List (Str × V)}, PairsAt K H xs kvs → xs.length = kvs.length ∧ ∀ (i : Nat) (kv : Str × V), kvs[i]? = some kv → ∃ t, xs[i]? = some (.ref t) ∧ SqT K H t [.str kv.1, kv.2]
  | _, _, .nil => ⟨rfl, fun i kv h => by simp at h⟩
  | _, _, .cons h r => by
    obtain ⟨e, g⟩ := pairs_get r
    refine ⟨by simp [e], fun i kv hk => ?_⟩
    cases i with
    | zero => cases hk; exact ⟨_, rfl, h⟩
    | succ i => exact g i kv hk
theorem held_kv {ks : Nat → Str} {vv : Nat → Value} {kvs : List (Str × V)} (h : ∀ (i : Nat) (kv : Str × V), kvs[i]? = some kv → ks i = kv.1 ∧ RelV kv.2 (vv i)) : ∀ i, i ≤ kvs.length → KV (mergeK [] ((pairsK kvs).take i)) (heldP ks vv i)
  | 0, _ => by rw [List.take_zero]; exact .nil
  | i + 1, hi => by
    have ih := held_kv h i (by omega)
    have e : kvs[i]? = some kvs[i] := List.getElem?_eq_getElem (by omega)
    obtain ⟨e1, e2⟩ := h i _ e
    have e' : (pairsK kvs)[i]? = some (.inr kvs[i].1, kvs[i].2) := by unfold pairsK; rw [List.getElem?_map, e]; rfl
    rw [List.take_add_one, e']
    unfold mergeK
    rw [List.foldl_append]
    show KV (putK (mergeK [] ((pairsK kvs).take i)) (.inr kvs[i].1) kvs[i].2) (stored (heldP ks vv i) (.inr (ks i)) (vv i))
    rw [e1]
    exact ih.put _ e2
theorem call_dictP (hc : X.calm = true) : CallR X (.type "dict") (fun xs H Q => ∃ (l : Addr) (ys : List V) (kvs : List (Str × V)), xs = [.ref l] ∧ SqL X.K H l ys ∧ PairsAt X.K H ys kvs ∧ kvs.length < 1000 ∧ ∀ p, H p = none → Q (.ref p) (upd H p (.dK (heldV kvs)))) := by
  intro pins s σ H xs us Q I r h
  obtain ⟨l, ys, kvs, rfl, hl, hp, hz, q⟩ := h
  obtain ⟨u, rfl, ru⟩ := vals1 r
  cases ru
  obtain ⟨its, rv, pl, _⟩ := I.list hl
  obtain ⟨el, g⟩ := pairs_get hp
  have es : its.toArray.size = kvs.length := by rw [List.size_toArray, ← rv.length, el]
  have all : ∀ i, ∃ (a : Addr) (tk : Tok) (v : Value), i < kvs.length → its[i]? = some (.ref a) ∧ IsTup s.heap a #[.str (kvs.getD i ("", .non)).1 tk, v] ∧ RelV (kvs.getD i ("", .non)).2 v := fun i => by
    by_cases hi : i < kvs.length
    · obtain ⟨t, h1, h2⟩ := g i kvs[i] (List.getElem?_eq_getElem hi)
      obtain ⟨u, hu, ru⟩ := rv.get h1
      cases ru
      obtain ⟨us, rus, it, _⟩ := I.tuple h2
      obtain ⟨u1, u2, rfl, r1, r2⟩ : ∃ u1 u2, us = [u1, u2] ∧ RelV (.str kvs[i].1) u1 ∧ RelV kvs[i].2 u2 := by
        cases rus with
        | cons r1 rr =>
          cases rr with
          | cons r2 rn =>
            cases rn
            exact ⟨_, _, rfl, r1, r2⟩
      obtain ⟨tk, rfl⟩ := r1
      refine ⟨t, tk, u2, fun _ => ⟨hu, ?_, ?_⟩⟩
      · rw [List.getD_eq_getElem?_getD, List.getElem?_eq_getElem hi]; exact it
      · rw [List.getD_eq_getElem?_getD, List.getElem?_eq_getElem hi]; exact r2
    · exact ⟨0, 0, .none, fun h => absurd h hi⟩
  obtain ⟨ta, all⟩ := Classical.skolem.mp all
  obtain ⟨tk, all⟩ := Classical.skolem.mp all
  obtain ⟨vv, all⟩ := Classical.skolem.mp all
  refine call_dict_pairs (items := its.toArray) (ks := fun i => (kvs.getD i ("", .non)).1) (tk := tk) (vv := vv) (ta := ta) (I.ok.hd hc) pl (fun i v hv => ?_) (fun j hj => (all j (by omega)).2.1) (by rw [es]; exact Nat.le_of_lt (small1000 (Nat.le_of_lt hz))) fun h' tk' hD hk => ?_
  · have hv' : its[i]? = some v := by rw [← List.getElem?_toArray]; exact hv
    have hi : i < kvs.length := by have := lt_of_get hv'; rw [← rv.length, el] at this; exact this
    have := (all i hi).1
    rw [hv'] at this
    exact Option.some.inj this
  · rw [es] at hD
    have rel : KV (heldV kvs) (heldP (fun i => (kvs.getD i ("", .non)).1) vv kvs.length) := by
      have := held_kv (ks := fun i => (kvs.getD i ("", .non)).1) (vv := vv) (kvs := kvs) (fun i kv hk => ?_) kvs.length (Nat.le_refl _)
      · rw [List.take_of_length_le (by unfold pairsK; rw [List.length_map]; exact Nat.le_refl _)] at this
        exact this
      · have e : kvs.getD i ("", .non) = kv := by rw [List.getD_eq_getElem?_getD, hk]; rfl
        have a := (all i (lt_of_get hk)).2.2
        rw [e] at a
        exact ⟨congrArg (·.1) e, a⟩
    have z : (heldV kvs).length ≤ sizeLine := by
      have := length_mergeK (pairsK kvs) []
      unfold pairsK at this
      rw [List.length_map] at this
      exact Nat.le_trans this (Nat.le_of_lt (small1000 (by simpa using Nat.le_of_lt hz)))
    exact ⟨.ref s.heap.objs.size, _, I.laid (t' := tk') hk (Nat.le_refl _) (dk_new z (beq_eq_false_iff_ne.mpr (Ne.symm (Nat.ne_of_lt I.big))) rel hD), rfl, q _ (I.hok.fresh (Nat.le_refl _))⟩
end
theorem bt_dict : bootBuiltins "dict" = some (.type "dict") := by decide +kernel
theorem RoomB.units1 {c : Bool} {k : Nat} {A : Around} (h : RoomB c k A) : A.units + 1 < cLine := Nat.lt_of_le_of_lt (by omega) h.units
section
variable {X : Cx} {P : Program} {w : World} {K : PySem.W.Frag} {mg : Str → Option Value} {base : Heap} {k : Nat} {m : Str} {pos apos : Pos} {e o : Expr} {es : List Expr} {ta : TE} {t : TA}
theorem pe_mBK {pl : Sem Bool} (he : PE X o ta) (hr : RoomB true k X.A) (ha : PA X (e :: es) t) (hP : X.prog = P := by rfl) (hw : X.w = w := by rfl) (hK : X.K = K := by rfl) (hg : X.mg = mg := by rfl) (hB : X.base = base := by rfl)
    (hst : starEach (e :: es) X.env = (false, eval e X.env) :: starEach es X.env := by rfl) (hpl : (backTo pos (starEach es X.env)).any (·.1) = false := by rfl)
    (ht : eval (.Call (.Attribute o m apos) (e :: es) [] pos) X.env = (do
      let ov ← eval o X.env
      standAt apos.atName
      let (f, first) ← holding [ov] (getMethod ov m pl)
      callWith pos f first (backTo pos (starEach (e :: es) X.env)) (backToKw pos (keywordEach [] X.env))) := by rfl) :
    PE X (.Call (.Attribute o m apos) (e :: es) [] pos) (tMB P w K mg base k m ta t) := by
  subst hP hw hK hg hB
  exact pe_mB he hr ha hst hpl ht
end
end L2
namespace Lib
open PySem L2 Fr Op
def nms (st : List (Str × Rat)) : List Str := "" :: st.map (·.1)
def inN (st : List (Str × Rat)) (n : Nat) (c : List Str) : Prop := c.length = n ∧ ∀ z ∈ c, z ∈ nms st
abbrev Ct := List Str × Tab
def oneC (st : List (Str × Rat)) (g : Rat) (ct : Ct) : List Ct := (nms st).map fun z => (ct.1 ++ [z], ct.2.then (tabOf (stepB st (z, g))))
def stepK (st : List (Str × Rat)) (found : List Ct) (g : Rat) : List Ct := found.flatMap (oneC st g)
def ctsOf (st : List (Str × Rat)) (g0 : Rat) (gs : List Rat) : List Ct := gs.foldl (stepK st) [([], tabOf [.gap g0])]
theorem cts_take (st : List (Str × Rat)) (g0 : Rat) {gs : List Rat} {i : Nat} {g : Rat} (h : gs[i]? = some g) : ctsOf st g0 (gs.take (i + 1)) = stepK st (ctsOf st g0 (gs.take i)) g := by
  unfold ctsOf
  rw [List.take_add_one, h, List.foldl_append]
  rfl
theorem len_flat {α β : Type} {f : α → List β} {n : Nat} : ∀ (l : List α), (∀ x ∈ l, (f x).length = n) → (l.flatMap f).length = l.length * n
  | [], _ => by simp
  | a :: l, h => by
    rw [List.flatMap_cons, List.length_append, h a List.mem_cons_self, len_flat l fun x hx => h x (List.mem_cons_of_mem _ hx), List.length_cons, Nat.succ_mul]
    omega
theorem cts_len (st : List (Str × Rat)) (g0 : Rat) (gs : List Rat) : ∀ i, i ≤ gs.length → (ctsOf st g0 (gs.take i)).length = (st.length + 1) ^ i
  | 0, _ => by rw [List.take_zero]; rfl
  | i + 1, hi => by
    rw [cts_take st g0 (List.getElem?_eq_getElem (show i < gs.length by omega)), stepK, len_flat (n := st.length + 1) _ fun x _ => by unfold oneC nms; simp, cts_len st g0 gs i (by omega), Nat.pow_succ]
theorem pow_5 {a i : Nat} (ha : a ≤ 4) (hi : i ≤ 4) : (a + 1) ^ i ≤ 625 := Nat.le_trans (Nat.pow_le_pow_left (show a + 1 ≤ 5 by omega) i) (Nat.le_trans (Nat.pow_le_pow_right (show 0 < 5 by decide) hi) (by decide))
theorem due_snoc (st : List (Str × Rat)) (g0 : Rat) {gs : List Rat} {cs : List Str} {c : Str} {g : Rat} (h : cs.length = gs.length) : dueB st g0 (gs ++ [g]) (cs ++ [c]) = dueB st g0 gs cs ++ stepB st (c, g) := by
  unfold dueB
  rw [List.zip_append h, List.map_append, List.flatten_append]
  show _ = Pc.gap g0 :: (_ ++ _)
  congr 2
  show [stepB st (c, g)].flatten = _
  rw [List.flatten_cons, List.flatten_nil, List.append_nil]
theorem inN_snoc {st : List (Str × Rat)} {n : Nat} {c : List Str} (h : inN st (n + 1) c) : ∃ c' z, c = c' ++ [z] ∧ inN st n c' ∧ z ∈ nms st := by
  rcases List.eq_nil_or_concat c with rfl | ⟨c', z, rfl⟩
  · cases h.1
  · have h1 := h.1
    rw [List.concat_eq_append, List.length_append] at h1
    rw [List.concat_eq_append]
    refine ⟨c', z, rfl, ⟨?_, fun y hy => h.2 y ?_⟩, h.2 z ?_⟩
    · simpa using h1
    · rw [List.concat_eq_append]; exact List.mem_append.mpr (.inl hy)
    · rw [List.concat_eq_append]; exact List.mem_append.mpr (.inr List.mem_cons_self)
theorem inN_app {st : List (Str × Rat)} {n : Nat} {c : List Str} {z : Str} (h : inN st n c) (hz : z ∈ nms st) : inN st (n + 1) (c ++ [z]) := by
  refine ⟨by rw [List.length_append, h.1]; rfl, fun y hy => ?_⟩
  rcases List.mem_append.mp hy with m | m
  · exact h.2 y m
  · rw [List.mem_singleton.mp m]; exact hz
theorem cts_mem (st : List (Str × Rat)) (g0 : Rat) (gs : List Rat) : ∀ i, i ≤ gs.length → (∀ ct ∈ ctsOf st g0 (gs.take i), inN st i ct.1 ∧ ct.2 = tabOf (dueB st g0 (gs.take i) ct.1)) ∧ ∀ c, inN st i c → ∃ t, (c, t) ∈ ctsOf st g0 (gs.take i)
  | 0, _ => by
    rw [List.take_zero]
    refine ⟨fun ct h => ?_, fun c h => ?_⟩
    · rw [List.mem_singleton.mp h]
      exact ⟨⟨rfl, fun _ h => nomatch h⟩, rfl⟩
    · rw [List.eq_nil_of_length_eq_zero h.1]
      exact ⟨_, List.mem_cons_self⟩
  | i + 1, hi => by
    have hg : gs[i]? = some gs[i] := List.getElem?_eq_getElem (show i < gs.length by omega)
    obtain ⟨h1, h2⟩ := cts_mem st g0 gs i (by omega)
    have et : gs.take (i + 1) = gs.take i ++ [gs[i]] := by rw [List.take_add_one, hg]; rfl
    rw [cts_take st g0 hg]
    refine ⟨fun ct h => ?_, fun c h => ?_⟩
    · obtain ⟨x, hx, hm⟩ := List.mem_flatMap.mp h
      obtain ⟨z, hz, rfl⟩ := List.mem_map.mp hm
      obtain ⟨a, b⟩ := h1 x hx
      refine ⟨inN_app a hz, ?_⟩
      show x.2.then _ = _
      rw [et, due_snoc st g0 (by rw [a.1, List.length_take]; omega), tab_append, ← b]
    · obtain ⟨c', z, rfl, hc, hz⟩ := inN_snoc h
      obtain ⟨t, ht⟩ := h2 c' hc
      exact ⟨_, List.mem_flatMap.mpr ⟨_, ht, List.mem_map.mpr ⟨z, hz, rfl⟩⟩⟩
def lchs (st : List (Str × Rat)) : Nat → List (List Str)
  | 0 => [[]]
  | n + 1 => (nms st).flatMap fun z => (lchs st n).map (· ++ [z])
theorem lchs_mem (st : List (Str × Rat)) : ∀ (n : Nat) (c : List Str), c ∈ lchs st n ↔ inN st n c
  | 0, c => by
    refine ⟨fun h => ?_, fun h => ?_⟩
    · rw [List.mem_singleton.mp h]; exact ⟨rfl, fun _ h => nomatch h⟩
    · rw [List.eq_nil_of_length_eq_zero h.1]; exact List.mem_cons_self
  | n + 1, c => by
    refine ⟨fun h => ?_, fun h => ?_⟩
    · obtain ⟨z, hz, hm⟩ := List.mem_flatMap.mp h
      obtain ⟨c', hc, rfl⟩ := List.mem_map.mp hm
      exact inN_app ((lchs_mem st n c').mp hc) hz
    · obtain ⟨c', z, rfl, hc, hz⟩ := inN_snoc h
      exact List.mem_flatMap.mpr ⟨z, hz, List.mem_map.mpr ⟨c', (lchs_mem st n c').mpr hc, rfl⟩⟩
theorem lchs_len (st : List (Str × Rat)) : ∀ n, (lchs st n).length = (st.length + 1) ^ n
  | 0 => rfl
  | n + 1 => by
    show ((nms st).flatMap fun z => (lchs st n).map (· ++ [z])).length = _
    rw [len_flat (n := (st.length + 1) ^ n) _ fun z _ => by rw [List.length_map, lchs_len st n]]
    unfold nms
    rw [List.length_cons, List.length_map, Nat.pow_succ, Nat.mul_comm]
def gmany (c : List Str) : Nat := (c.filter fun z => !decide (z = ("" : Str))).length
theorem same_str (z y : Str) : PySem.Spec.same (.str z) (.str y) = decide (z = y) := by
  by_cases e : z = y
  · subst e; simp [PySem.Spec.same]
  · simp [PySem.Spec.same, e]
theorem count_cons (z : Str) (c : List Str) : PySem.Spec.countIn (.str "") ((z :: c).map PyData.str) = (if z = ("" : Str) then 1 else 0) + PySem.Spec.countIn (.str "") (c.map PyData.str) := by
  show (if PySem.Spec.same (.str z) (.str "") = true then (1 : Int) else 0) + _ = _
  rw [same_str]
  by_cases e : z = ("" : Str)
  · rw [if_pos (decide_eq_true e), if_pos e]
  · rw [if_neg (by rw [decide_eq_true_eq]; exact e), if_neg e]
theorem glassN_many : ∀ c : List Str, glassN c = (gmany c : Int)
  | [] => rfl
  | z :: c => by
    have ih := glassN_many c
    unfold glassN gmany at *
    rw [count_cons, List.filter_cons]
    by_cases e : z = ("" : Str)
    · rw [if_pos e, if_neg (by rw [decide_eq_true e]; decide), List.length_cons]
      omega
    · rw [if_neg e, if_pos (by rw [decide_eq_false e]; rfl), List.length_cons, List.length_cons]
      omega
theorem glass_no {st : List (Str × Rat)} (h : ∀ k ∈ st, nameB k.1 = true) : glassOf st "" = [] := by
  unfold glassOf
  rw [List.filter_eq_nil_iff.mpr fun k hk => ?_]
  · rfl
  · intro e
    have e := of_decide_eq_true e
    have := h k hk
    rw [e] at this
    revert this
    decide +kernel
theorem glass_is : ∀ {st : List (Str × Rat)}, (st.map (·.1)).Nodup → ∀ {k : Str × Rat}, k ∈ st → glassOf st k.1 = [.glass k.2]
  | a :: st, nd, k, hk => by
    rw [List.map_cons, List.nodup_cons] at nd
    unfold glassOf
    rw [List.filter_cons]
    rcases List.mem_cons.mp hk with rfl | hm
    · rw [if_pos (decide_eq_true rfl), List.filter_eq_nil_iff.mpr fun x hx => ?_]
      · rfl
      · intro e
        exact nd.1 (List.mem_map.mpr ⟨x, hx, of_decide_eq_true e⟩)
    · rw [if_neg fun e => nd.1 (List.mem_map.mpr ⟨k, hm, (of_decide_eq_true e).symm⟩)]
      exact glass_is nd.2 hm
end Lib
namespace L2
open PySem PySem.Spec PyProof.Rows
theorem valV_out : ∀ (l acc : List (Key × V)) (k : Key), ¬ k ∈ l.map (·.1) → valV (mergeK acc l) k = valV acc k
  | [], _, _, _ => rfl
  | a :: l, acc, k, h => by
    rw [List.map_cons, List.mem_cons, not_or] at h
    show valV (mergeK (putK acc a.1 a.2) l) k = _
    rw [valV_out l _ k h.2, valV_put, if_neg h.1]
theorem valV_merge : ∀ (l acc : List (Key × V)) {i : Nat} {kv : Key × V}, (l.map (·.1)).Nodup → l[i]? = some kv → valV (mergeK acc l) kv.1 = some kv.2
  | a :: l, acc, 0, kv, nd, h => by
    cases h
    rw [List.map_cons, List.nodup_cons] at nd
    show valV (mergeK (putK acc a.1 a.2) l) a.1 = _
    rw [valV_out l _ _ nd.1, valV_put, if_pos rfl]
  | a :: l, acc, i + 1, kv, nd, h => by
    rw [List.map_cons, List.nodup_cons] at nd
    exact valV_merge l (putK acc a.1 a.2) nd.2 h
theorem valV_held {kvs : List (Str × V)} (nd : (kvs.map (·.1)).Nodup) {i : Nat} {kv : Str × V} (h : kvs[i]? = some kv) : valV (heldV kvs) (.inr kv.1) = some kv.2 := by
  unfold heldV
  have nd' : ((pairsK kvs).map (·.1)).Nodup := by
    unfold pairsK
    rw [List.map_map]
    have e : ((fun kv : Key × V => kv.1) ∘ fun kv : Str × V => ((.inr kv.1, kv.2) : Key × V)) = (fun z : Str => (.inr z : Key)) ∘ (·.1) := rfl
    rw [e, ← List.map_map]
    exact (List.pairwise_map.mpr (nd.imp fun h e => h (Sum.inr.inj e)))
  exact valV_merge (pairsK kvs) [] (i := i) (kv := (.inr kv.1, kv.2)) nd' (by unfold pairsK; rw [List.getElem?_map, h]; rfl)
end L2
namespace Lib
open PySem L2 Fr Op
def ChN (K : PySem.W.Frag) (N : Addr → Prop) (H : Hp) (x : V) (ct : Ct) : Prop := ∃ (p l : Addr) (y : V), x = .ref p ∧ H p = some (.tup [.ref l, y]) ∧ H l = some (.lst (ct.1.map V.str)) ∧ N l ∧ DV K H y (tabD ct.2)
inductive ChNs (K : PySem.W.Frag) (N : Addr → Prop) (H : Hp) : List V → List Ct → Prop
  | nil : ChNs K N H [] []
  | cons {x : V} {ct : Ct} {xs : List V} {cs : List Ct} : ChN K N H x ct → ChNs K N H xs cs → ChNs K N H (x :: xs) (ct :: cs)
section
variable {K : PySem.W.Frag} {N N' : Addr → Prop} {H H' : Hp}
theorem ChN.to {x : V} {ct : Ct} (h : ChN K N H x ct) (k : ∀ p ys, H p = some (.tup ys) → H' p = some (.tup ys)) (kl : ∀ l zs, N l → H l = some (.lst zs) → H' l = some (.lst zs)) (kd : ∀ y d, noL d = true → DV K H y d → DV K H' y d) (n : ∀ l zs, N l → H l = some (.lst zs) → N' l) : ChN K N' H' x ct := by
  obtain ⟨p, l, y, e, h1, h2, h3, h4⟩ := h
  exact ⟨p, l, y, e, k _ _ h1, kl _ _ h3 h2, n _ _ h3 h2, kd _ _ rfl h4⟩
theorem ChNs.to (k : ∀ p ys, H p = some (.tup ys) → H' p = some (.tup ys)) (kl : ∀ l zs, N l → H l = some (.lst zs) → H' l = some (.lst zs)) (kd : ∀ y d, noL d = true → DV K H y d → DV K H' y d) (n : ∀ l zs, N l → H l = some (.lst zs) → N' l) : ∀ {xs : List V} {cs : List Ct}, ChNs K N H xs cs → ChNs K N' H' xs cs
  | _, _, .nil => .nil
  | _, _, .cons h r => .cons (h.to k kl kd n) (ChNs.to k kl kd n r)
theorem ChNs.keep (s : Same H H') {xs : List V} {cs : List Ct} (h : ChNs K N H xs cs) : ChNs K N H' xs cs := h.to (fun _ _ e => s _ _ e) (fun _ _ _ e => s _ _ e) (fun _ _ _ d => d.keep s) (fun _ _ e _ => e)
theorem ChNs.weak (n : ∀ l, N l → N' l) {xs : List V} {cs : List Ct} (h : ChNs K N H xs cs) : ChNs K N' H xs cs := h.to (fun _ _ e => e) (fun _ _ _ e => e) (fun _ _ _ d => d) (fun l _ e _ => n l e)
theorem sdT {q : Addr} {zs : List V} (hq : H q = some (.lst zs)) (sd : SD q H H') : SameT H H' := fun b ys => ⟨fun e => sd _ _ (fun z => by rw [z, hq] at e; cases e) e, fun o e => sd _ _ (fun z => by rw [z, hq] at e; cases e) e⟩
theorem ChNs.sd {q : Addr} {zs : List V} (hq : H q = some (.lst zs)) (sd : SD q H H') (n : ∀ l, N l → l ≠ q) {xs : List V} {cs : List Ct} (h : ChNs K N H xs cs) : ChNs K N H' xs cs :=
  h.to (fun p ys e => ((sdT hq sd) p ys).1 e) (fun l zs hn e => sd _ _ (n l hn) e) (fun _ _ hd d => dv_keepT (sdT hq sd) hd d) (fun _ _ e _ => e)
theorem ChNs.snoc {x : V} {ct : Ct} (hx : ChN K N H x ct) : ∀ {xs : List V} {cs : List Ct}, ChNs K N H xs cs → ChNs K N H (xs ++ [x]) (cs ++ [ct])
  | _, _, .nil => .cons hx .nil
  | _, _, .cons h r => .cons h (ChNs.snoc hx r)
theorem ChNs.len : ∀ {xs : List V} {cs : List Ct}, ChNs K N H xs cs → xs.length = cs.length
  | _, _, .nil => rfl
  | _, _, .cons _ r => congrArg (· + 1) (ChNs.len r)
theorem ChNs.get : ∀ {xs : List V} {cs : List Ct}, ChNs K N H xs cs → ∀ {i : Nat} {x : V}, xs[i]? = some x → ∃ ct, cs[i]? = some ct ∧ ChN K N H x ct
  | _, _, .cons h r, 0, x, e => by cases e; exact ⟨_, rfl, h⟩
  | _, _, .cons h r, i + 1, x, e => ChNs.get r (i := i) e
end
def spTabs (K : PySem.W.Frag) (C : Addr) : Sp := fun vs H Q _ => ∃ (x y : V) (st : List (Str × Rat)) (g0 : Rat) (gs : List Rat), vs = [x, y] ∧ ShopAt K C H x st ∧ st.length ≤ 4 ∧ (∀ k ∈ st, Bd 7 k.2) ∧ DV K H y (.list ((g0 :: gs).map frD)) ∧ gs.length ≤ 4 ∧ (∀ g ∈ g0 :: gs, Bd 7 g) ∧
  ∀ l zs H', Same H H' → H' l = some (.lst zs) → ChNs K (fun l => H l = none) H' zs (ctsOf st g0 gs) → Q (.ref l) H'
def spFewA (K : PySem.W.Frag) (C : Addr) : Sp := fun vs H Q _ => ∃ (x y z : V) (st : List (Str × Rat)) (g0 : Rat) (gs : List Rat) (wi : Wish) (n : Nat), vs = [x, y, z] ∧ ShopAt K C H x st ∧ st.length ≤ 4 ∧ (∀ k ∈ st, Bd 7 k.2) ∧ DV K H y (.list ((g0 :: gs).map frD)) ∧ gs.length ≤ 4 ∧ (∀ g ∈ g0 :: gs, Bd 7 g) ∧ DV K H z (wishD wi) ∧ wi.bd n ∧ n ≤ 450 ∧ 170 ≤ n ∧
  (∀ l c H', Same H H' → H l = none → H' l = some (.lst (c.map V.str)) → inN st gs.length c → doesB (tabOf (dueB st g0 gs c)) wi = true → (∀ c', inN st gs.length c' → doesB (tabOf (dueB st g0 gs c')) wi = true → gmany c ≤ gmany c') → Q (.ref l) H') ∧
  ((∀ c, inN st gs.length c → doesB (tabOf (dueB st g0 gs c)) wi = false) → ∀ H', Same H H' → Q .non H')
theorem step_bd {st : List (Str × Rat)} (h : ∀ k ∈ st, Bd 7 k.2) {p : Str × Rat} (hp : Bd 7 p.2) : ∀ x ∈ stepB st p, x.bd 7 := by
  intro x hx
  unfold stepB glassOf at hx
  rcases List.mem_append.mp hx with m | m
  · obtain ⟨k, hk, rfl⟩ := List.mem_map.mp m
    exact h k (List.mem_filter.mp hk).1
  · rw [List.mem_singleton.mp m]; exact hp
theorem step_ok (st : List (Str × Rat)) (p : Str × Rat) : ∀ x ∈ stepB st p, x.ok := by
  intro x hx
  unfold stepB glassOf at hx
  rcases List.mem_append.mp hx with m | m
  · obtain ⟨k, hk, rfl⟩ := List.mem_map.mp m
    exact trivial
  · rw [List.mem_singleton.mp m]; exact trivial
theorem due_bd7 {st : List (Str × Rat)} (h : ∀ k ∈ st, Bd 7 k.2) {g0 : Rat} {gs : List Rat} (hg : ∀ g ∈ g0 :: gs, Bd 7 g) (cs : List Str) : ∀ x ∈ dueB st g0 gs cs, x.bd 7 := by
  intro x hx
  unfold dueB at hx
  rcases List.mem_cons.mp hx with rfl | m
  · exact hg g0 List.mem_cons_self
  · obtain ⟨l, hl, hx⟩ := List.mem_flatten.mp m
    obtain ⟨p, hp, rfl⟩ := List.mem_map.mp hl
    exact step_bd h (hg _ (List.mem_cons_of_mem _ (List.of_mem_zip hp).2)) x hx
theorem due_ok7 (st : List (Str × Rat)) (g0 : Rat) (gs : List Rat) (cs : List Str) : ∀ x ∈ dueB st g0 gs cs, x.ok := by
  intro x hx
  unfold dueB at hx
  rcases List.mem_cons.mp hx with rfl | m
  · exact trivial
  · obtain ⟨l, hl, hx⟩ := List.mem_flatten.mp m
    obtain ⟨p, hp, rfl⟩ := List.mem_map.mp hl
    exact step_ok st p x hx
theorem due_tb {st : List (Str × Rat)} (h4 : st.length ≤ 4) (h : ∀ k ∈ st, Bd 7 k.2) {g0 : Rat} {gs : List Rat} (hg : ∀ g ∈ g0 :: gs, Bd 7 g) {cs : List Str} (hc : cs.length ≤ 4) : Tb 170 (tabOf (dueB st g0 gs cs)) := by
  refine Lib.Tb.mono (tab_bd (due_bd7 h hg cs)) ?_
  have h1 := due_len st g0 gs cs
  have h2 : cs.length * (st.length + 1) ≤ 4 * 5 := Nat.mul_le_mul hc (by omega)
  omega
def stD (st : List (Str × Rat)) (g : Rat) (z : Str) : PyData := .tuple [.str z, tabD (tabOf (stepB st (z, g)))]
theorem step_tb {st : List (Str × Rat)} (h4 : st.length ≤ 4) (h : ∀ k ∈ st, Bd 7 k.2) {z : Str} {g : Rat} (hg : Bd 7 g) : Tb 170 (tabOf (stepB st (z, g))) := by
  refine Lib.Tb.mono (tab_bd (step_bd h (p := (z, g)) hg)) ?_
  have h2 := glass_le st z
  show 2 + (glassOf st z ++ [Pc.gap g]).length * (7 + 1) ≤ 170
  rw [List.length_append, List.length_singleton]
  omega
theorem dvs_strs {K : PySem.W.Frag} {H : Hp} : ∀ c : List Str, DVs K H (c.map V.str) (c.map PyData.str)
  | [] => .nil
  | z :: c => .cons (.str z) (dvs_strs c)
inductive LcAt (N : Addr → Prop) (H : Hp) : List V → List (List Str) → Prop
  | nil : LcAt N H [] []
  | cons {l : Addr} {c : List Str} {xs : List V} {cs : List (List Str)} : N l → H l = some (.lst (c.map V.str)) → LcAt N H xs cs → LcAt N H (.ref l :: xs) (c :: cs)
theorem LcAt.keep {N : Addr → Prop} {H H' : Hp} (s : Same H H') : ∀ {xs : List V} {cs : List (List Str)}, LcAt N H xs cs → LcAt N H' xs cs
  | _, _, .nil => .nil
  | _, _, .cons n h r => .cons n (s _ _ h) (LcAt.keep s r)
theorem LcAt.snoc {N : Addr → Prop} {H : Hp} {l : Addr} {c : List Str} (n : N l) (h : H l = some (.lst (c.map V.str))) : ∀ {xs : List V} {cs : List (List Str)}, LcAt N H xs cs → LcAt N H (xs ++ [.ref l]) (cs ++ [c])
  | _, _, .nil => .cons n h .nil
  | _, _, .cons a b r => .cons a b (LcAt.snoc n h r)
theorem LcAt.len {N : Addr → Prop} {H : Hp} : ∀ {xs : List V} {cs : List (List Str)}, LcAt N H xs cs → xs.length = cs.length
  | _, _, .nil => rfl
  | _, _, .cons _ _ r => congrArg (· + 1) (LcAt.len r)
theorem LcAt.get {N : Addr → Prop} {H : Hp} : ∀ {xs : List V} {cs : List (List Str)}, LcAt N H xs cs → ∀ {i : Nat} {x : V}, xs[i]? = some x → ∃ l c, x = .ref l ∧ cs[i]? = some c ∧ N l ∧ H l = some (.lst (c.map V.str))
  | _, _, .cons a b r, 0, x, e => by cases e; exact ⟨_, _, rfl, rfl, a, b⟩
  | _, _, .cons _ _ r, i + 1, x, e => LcAt.get r (i := i) e
theorem LcAt.dvs {K : PySem.W.Frag} {N : Addr → Prop} {H : Hp} : ∀ {xs : List V} {cs : List (List Str)}, LcAt N H xs cs → DVs K H xs (cs.map fun c => .list (c.map PyData.str))
  | _, _, .nil => .nil
  | _, _, .cons _ h r => .cons (.lst (SqL.of h) (dvs_strs _)) (LcAt.dvs r)
theorem gaps_ok {g0 : Rat} {gs : List Rat} (h : gs.length ≤ 4) : gapsB (.list ((g0 :: gs).map frD)) = true := by
  show ((decide (1 ≤ ((g0 :: gs).map frD).length) && decide (((g0 :: gs).map frD).length ≤ 5)) && ((g0 :: gs).map frD).all ratD) = true
  rw [List.length_map, List.length_cons, decide_eq_true (by omega), decide_eq_true (by omega), Bool.true_and, Bool.true_and, List.all_eq_true]
  intro d hd
  obtain ⟨q, _, rfl⟩ := List.mem_map.mp hd
  exact ratD_fr q
theorem best_le {ns : List Int} (n : Nat) : argBest (lessI ns) n ≤ n ∧ ∀ j, j ≤ n → ns.getD (argBest (lessI ns) n) 0 ≤ ns.getD j 0 := PySem.argBest_lt (fun i => ns.getD i 0) n
end Lib
namespace Lib
open PySem L2 Fr Op
theorem ix_to {n k : Nat} (hk : k ≤ n) : Builtin.Str.strSliceIndices none (some (k : Int)) 1 n = List.range k := by
  unfold Builtin.Str.strSliceIndices sliceRange
  simp only [show (1 : Int) > 0 by decide, if_true]
  have h1 : max 0 (min (if (k : Int) < 0 then (k : Int) + (n : Int) else (k : Int)) (n : Int)) = (k : Int) := by
    rw [if_neg (by omega)]
    omega
  rw [h1]
  have h2 : (if (0 : Int) < (k : Int) then ((k : Int) - 0 + 1 - 1) / 1 else 0).toNat = k := by
    split <;> simp <;> omega
  rw [h2]
  refine (List.map_congr_left fun k _ => ?_).trans (List.map_id _)
  simp
theorem ix_from {n k : Nat} (hk : k ≤ n) : Builtin.Str.strSliceIndices (some (k : Int)) none 1 n = (List.range (n - k)).map (k + ·) := by
  unfold Builtin.Str.strSliceIndices sliceRange
  simp only [show (1 : Int) > 0 by decide, if_true]
  have h1 : max 0 (min (if (k : Int) < 0 then (k : Int) + (n : Int) else (k : Int)) (n : Int)) = (k : Int) := by
    rw [if_neg (by omega)]
    omega
  rw [h1]
  have h2 : (if (k : Int) < (n : Int) then ((n : Int) - (k : Int) + 1 - 1) / 1 else 0).toNat = n - k := by
    split <;> simp <;> omega
  rw [h2]
  apply List.map_congr_left
  intro j _
  omega
theorem pick_to : ∀ (l : List Nat) (k : Nat), k ≤ l.length → (List.range k).filterMap (fun j => l[j]?) = l.take k
  | l, 0, _ => by simp
  | l, k + 1, h => by
    rw [List.range_succ, List.filterMap_append, pick_to l k (by omega), List.take_add_one]
    congr 1
theorem pick_from (l : List Nat) (k : Nat) (hk : k ≤ l.length) : ((List.range (l.length - k)).map (k + ·)).filterMap (fun j => l[j]?) = l.drop k := by
  rw [List.filterMap_map]
  have e : ((fun j => l[j]?) ∘ fun x => k + x) = fun j => (l.drop k)[j]? := by
    funext j
    rw [List.getElem?_drop]
    rfl
  rw [e, ← List.length_drop, pick_to _ _ (Nat.le_refl _), List.take_length]
theorem slice_to (l : List Nat) (k : Nat) (hk : k ≤ l.length) : Txt.slice ⟨l.toArray⟩ none (some (k : Int)) = ⟨(l.take k).toArray⟩ := by
  have hl : (PySem.Str.mk l.toArray).length = l.length := by show l.toArray.size = _; simp
  unfold Txt.slice
  rw [hl, ix_to hk]
  split
  · rename_i h
    simp at h
    rw [h, List.take_length]
  · show (⟨((List.range k).filterMap (fun j => l.toArray[j]?)).toArray⟩ : PySem.Str) = _
    rw [← pick_to l k hk]
    simp
theorem slice_from (l : List Nat) (k : Nat) (hk : k ≤ l.length) : Txt.slice ⟨l.toArray⟩ (some (k : Int)) none = ⟨(l.drop k).toArray⟩ := by
  have hl : (PySem.Str.mk l.toArray).length = l.length := by show l.toArray.size = _; simp
  unfold Txt.slice
  rw [hl, ix_from hk]
  split
  · rename_i h
    simp at h
    have : k = 0 ∨ l.length = 0 := by omega
    rcases this with rfl | h0
    · simp
    · rw [List.eq_nil_of_length_eq_zero h0]; simp
  · show (⟨(((List.range (l.length - k)).map (k + ·)).filterMap (fun j => l.toArray[j]?)).toArray⟩ : PySem.Str) = _
    rw [← pick_from l k hk]
    simp
def wCs (s : Int) (n : Nat) : List Nat := (List.range n).map fun (j : Nat) => 97 + ((s / 7 + (0 + (j : Int)) * (0 + (j : Int))) % 26).toNat
def wN (s : Int) : Nat := (s % 7).toNat
def wAt (s : Int) : Nat := (s / 49 % ((wN s : Int) + 1)).toNat
def nCs (s : Int) (k : Nat) : List Nat := (wCs s (wN s)).take (wAt s) ++ [97 + k] ++ (wCs s (wN s)).drop (wAt s)
def nm64 (s : Int) (k : Nat) : Str := ⟨(nCs s k).toArray⟩
theorem wCs_len (s : Int) (n : Nat) : (wCs s n).length = n := by unfold wCs; rw [List.length_map, List.length_range]
theorem wN_b (s : Int) : wN s ≤ 6 := by unfold wN; omega
theorem wAt_b (s : Int) : wAt s ≤ wN s := by
  unfold wAt
  have := Int.emod_lt_of_pos (s / 49) (show 0 < ((wN s : Int) + 1) by omega)
  have := Int.emod_nonneg (s / 49) (show ((wN s : Int) + 1) ≠ 0 by omega)
  omega
theorem nm_len (s : Int) (k : Nat) : (nm64 s k).length = wN s + 1 := by
  show (nCs s k).toArray.size = _
  unfold nCs
  have := wAt_b s
  simp [wCs_len]
  omega
theorem nm_mem {s : Int} {k c : Nat} (hk : k < 26) (h : c ∈ nCs s k) : ∃ j, j < 26 ∧ c = 97 + j := by
  have w : ∀ c ∈ wCs s (wN s), ∃ j, j < 26 ∧ c = 97 + j := fun c hc => by
    obtain ⟨j, _, rfl⟩ := List.mem_map.mp hc
    exact ⟨_, by have := Int.emod_lt_of_pos (s / 7 + (0 + (j : Int)) * (0 + (j : Int))) (show (0 : Int) < 26 by decide); have := Int.emod_nonneg (s / 7 + (0 + (j : Int)) * (0 + (j : Int))) (show (26 : Int) ≠ 0 by decide); omega, rfl⟩
  unfold nCs at h
  rcases List.mem_append.mp h with h | h
  · rcases List.mem_append.mp h with h | h
    · exact w c (List.mem_of_mem_take h)
    · exact ⟨k, hk, List.mem_singleton.mp h⟩
  · exact w c (List.mem_of_mem_drop h)
theorem nm_ok {s : Int} {k : Nat} (hk : k < 26) : nameB (nm64 s k) = true := by
  unfold nameB
  rw [nm_len]
  have b := wN_b s
  rw [decide_eq_true (show 1 ≤ wN s + 1 by omega), decide_eq_true (show wN s + 1 ≤ 8 by omega), Bool.true_and, Bool.true_and, List.all_eq_true]
  intro x hx
  unfold PyProof.Rows.signs nm64 at hx
  simp only [List.mem_map] at hx
  obtain ⟨c, hc, rfl⟩ := hx
  obtain ⟨j, hj, rfl⟩ := nm_mem hk (by simpa using hc)
  exact inLet_of hj
theorem nm_inj {s : Int} {k l : Nat} (e : nm64 s k = nm64 s l) : k = l := by
  have e1 : nCs s k = nCs s l := by
    have := congrArg (fun s : Str => s.cps.toList) e
    simpa [nm64] using this
  unfold nCs at e1
  rw [List.append_assoc, List.append_assoc] at e1
  have e2 := List.append_cancel_left e1
  have e3 := List.append_cancel_right e2
  simpa using e3
def spNm : Sp := fun vs H Q _ => ∃ (s : Int) (k : Nat), vs = [.int s, .int (k : Int)] ∧ k < 26 ∧ 0 ≤ s ∧ s < 1000000 ∧ ∀ H', Same H H' → Q (.str (nm64 s k)) H'
structure NStock (s : Int) (st : List (Str × Rat)) : Prop where
  nm : ∀ (i : Nat) (k : Str × Rat), st[i]? = some k → k.1 = nm64 s i
  nz : ∀ k ∈ st, k.2 ≠ 0
  bd : ∀ k ∈ st, Bd 7 k.2
theorem NStock.ok {s : Int} {st : List (Str × Rat)} (h : NStock s st) (h1 : 1 ≤ st.length) (h4 : st.length ≤ 4) : StockOk st := by
  refine ⟨⟨h1, h4⟩, fun k hk => ?_, h.nz, ?_⟩
  · obtain ⟨i, hi⟩ := List.getElem?_of_mem hk
    rw [h.nm i k hi]
    exact nm_ok (by have := lt_of_get hi; omega)
  · refine List.pairwise_iff_getElem.mpr fun i j hi hj hij e => ?_
    rw [List.length_map] at hi hj
    rw [List.getElem_map, List.getElem_map] at e
    rw [h.nm i _ (List.getElem?_eq_getElem (Nat.lt_trans hij hj)), h.nm j _ (List.getElem?_eq_getElem hj)] at e
    have := nm_inj e
    omega
theorem NStock.push {s : Int} {st : List (Str × Rat)} {q : Rat} (h : NStock s st) (hq : q ≠ 0) (hb : Bd 7 q) : NStock s (st ++ [(nm64 s st.length, q)]) := by
  refine ⟨fun i k hi => ?_, fun k hk => ?_, fun k hk => ?_⟩
  · rcases Nat.lt_trichotomy i st.length with lt | rfl | gt
    · rw [List.getElem?_append_left lt] at hi
      exact h.nm i k hi
    · rw [List.getElem?_append_right (Nat.le_refl _), Nat.sub_self] at hi
      cases hi
      rfl
    · rw [List.getElem?_eq_none (by rw [List.length_append, List.length_singleton]; omega)] at hi
      cases hi
  · rcases List.mem_append.mp hk with m | m
    · exact h.nz k m
    · rw [List.mem_singleton.mp m]; exact hq
  · rcases List.mem_append.mp hk with m | m
    · exact h.bd k m
    · rw [List.mem_singleton.mp m]; exact hb
theorem NStock.nil (s : Int) : NStock s [] := ⟨(fun i k hi => by cases hi), (fun k hk => nomatch hk), fun k hk => nomatch hk⟩
def spStk (K : PySem.W.Frag) : Sp := fun vs H Q _ => ∃ (d : Addr) (m : Int), vs = [.ref d, .int m] ∧ SrcA H d ∧ 1 ≤ m ∧ m ≤ 4 ∧ ∀ l ks (s : Int) st H', SrcA H' d → SD d H H' → H l = none → H' l = some (.lst ks) → DVs K H' ks (st.map kindD) → NStock s st → 1 ≤ st.length → st.length ≤ 4 → Q (.ref l) H'
def spGps (K : PySem.W.Frag) : Sp := fun vs H Q _ => ∃ (d : Addr) (m : Int), vs = [.ref d, .int m] ∧ SrcA H d ∧ 1 ≤ m ∧ m ≤ 4 ∧ ∀ l xs (g0 : Rat) (gs : List Rat) H', SrcA H' d → SD d H H' → H l = none → H' l = some (.lst xs) → DVs K H' xs ((g0 :: gs).map frD) → gs.length ≤ 4 → (∀ g ∈ g0 :: gs, Bd 7 g) → Q (.ref l) H'
theorem sd_free {d l : Addr} {H H1 : Hp} (sd : SD d H H1) (n : l ≠ d) (h : H1 l = none) : H l = none := by
  cases e : H l with
  | none => rfl
  | some o => rw [sd _ _ n e] at h; cases h
theorem sd_put {d l : Addr} {H H1 : Hp} (sd : SD d H H1) (h : H l = none) (o : HO) : SD d H (upd H1 l o) := fun b u n e => by
  rw [upd_ne (ne_of_none e h)]
  exact sd _ _ n e
theorem frD_is {q : Rat} {a : Int} {b : Nat} (h1 : q.num = a) (h2 : q.den = b) : frD q = .tuple [.int a, .int (b : Int)] := by
  subst h1 h2
  rfl
theorem LcAt.append {N : Addr → Prop} {H : Hp} {ys : List V} {ds : List (List Str)} (hy : LcAt N H ys ds) : ∀ {xs : List V} {cs : List (List Str)}, LcAt N H xs cs → LcAt N H (xs ++ ys) (cs ++ ds)
  | _, _, .nil => hy
  | _, _, .cons a b r => .cons a b (LcAt.append hy r)
def spChs (K : PySem.W.Frag) : Sp := fun vs H Q _ => ∃ (l : Addr) (ks : List V) (st : List (Str × Rat)) (n : Nat), vs = [.ref l, .int (n : Int)] ∧ H l = some (.lst ks) ∧ DVs K H ks (st.map kindD) ∧ st.length ≤ 4 ∧ n ≤ 4 ∧
  ∀ p xs H', Same H H' → H p = none → H' p = some (.lst xs) → LcAt (fun l => H l = none) H' xs (lchs st n) → Q (.ref p) H'
def spMny (K : PySem.W.Frag) : Sp := fun vs H Q _ => ∃ (l : Addr) (c : List Str), vs = [.ref l] ∧ SqL K H l (c.map V.str) ∧ c.length ≤ 10 ∧ ∀ H', Same H H' → Q (.int (gmany c : Int)) H'
def spBn64 (K : PySem.W.Frag) : Sp := fun vs H Q _ => ∃ (ls lg lc : Addr) (ks gv : List V) (st : List (Str × Rat)) (g0 : Rat) (gs : List Rat) (c : List Str), vs = [.ref ls, .ref lg, .ref lc] ∧ H ls = some (.lst ks) ∧ DVs K H ks (st.map kindD) ∧ StockOk st ∧ H lg = some (.lst gv) ∧ DVs K H gv ((g0 :: gs).map frD) ∧ gs.length ≤ 4 ∧ SqL K H lc (c.map V.str) ∧ inN st gs.length c ∧
  ∀ p xs H', Same H H' → H p = none → H' p = some (.lst xs) → DVs K H' xs ((dueB st g0 gs c).map pcD) → Q (.ref p) H'
theorem pairs_of {K : PySem.W.Frag} {H : Hp} : ∀ {ks : List V} {st : List (Str × Rat)}, DVs K H ks (st.map kindD) → ∃ kvs : List (Str × V), PairsAt K H ks kvs ∧ kvs.map (·.1) = st.map (·.1) ∧ ∀ (i : Nat) (k : Str × Rat), st[i]? = some k → ∃ v, kvs[i]? = some (k.1, v) ∧ DV K H v (frD k.2)
  | ks, [], h => by
    obtain rfl := h.nil_of
    exact ⟨[], .nil, rfl, fun i k e => by cases e⟩
  | ks, k :: st, h => by
    rw [List.map_cons] at h
    obtain ⟨x, xs, rfl, hx, hr⟩ := h.cons_of
    obtain ⟨kvs, p, e, g⟩ := pairs_of hr
    obtain ⟨b, x1, x2, rfl, hb, g1, g2⟩ := DV.t2 (show DV K H x (.tuple [.str k.1, frD k.2]) from hx)
    obtain rfl := DV.str_of g1
    refine ⟨(k.1, x2) :: kvs, .cons hb p, by rw [List.map_cons, List.map_cons, e], fun i k' hk => ?_⟩
    cases i with
    | zero => cases hk; exact ⟨x2, rfl, g2⟩
    | succ i => exact g i k' hk
def spStp (K : PySem.W.Frag) : Sp := fun vs H Q _ => ∃ (d z : Addr) (a b : Int), vs = [.ref d, .ref z] ∧ SrcA H d ∧ H z = some (.lst [.int a, .int b]) ∧ 1 ≤ a ∧ a ≤ 4 ∧ 1 ≤ b ∧ b ≤ 4 ∧ z ≠ d ∧ ∀ H', SD d H H' → Q (.bl true) H'
theorem nm_strOk {s : Int} {k : Nat} (hk : k < 26) : PyData.strOk (nm64 s k) = true := by
  unfold PyData.strOk nm64
  rw [← Array.all_toList, List.all_eq_true]
  intro c hc
  obtain ⟨j, hj, rfl⟩ := nm_mem hk (by simpa using hc)
  exact decide_eq_true (by omega)
theorem NStock.str {s : Int} {st : List (Str × Rat)} (h : NStock s st) (h4 : st.length ≤ 4) : ∀ z ∈ nms st, PyData.strOk z = true := fun z hz => by
  rcases List.mem_cons.mp hz with rfl | m
  · decide +kernel
  · obtain ⟨k, hk, rfl⟩ := List.mem_map.mp m
    obtain ⟨i, hi⟩ := List.getElem?_of_mem hk
    rw [h.nm i k hi]
    exact nm_strOk (by have := lt_of_get hi; omega)
def chD (c : List Str) : PyData := .list (c.map PyData.str)
theorem flat_ch {c : List Str} (h : ∀ z ∈ c, PyData.strOk z = true) : Flat 1 (chD c) := flat_lst fun d hd => by
  obtain ⟨z, hz, rfl⟩ := List.mem_map.mp hd
  exact ⟨h z hz, Nat.zero_le _⟩
end Lib
namespace Lib
open PySem L2 Fr Op
def bringB (t : Tab) (s : Rat) (go : Option Rat) : Bool := decide (t.a * s + t.b = 0) && (match go with | none => true | some g => decide (t.a = g))
def wishO (s : Rat) : Option Rat → Wish
  | none => .image s
  | some g => .grown s g
theorem img_zero {t : Tab} (d : t.det = 1) (s : Rat) : img t s = some 0 ↔ t.a * s + t.b = 0 := by
  have d : t.a * t.d - t.b * t.c = 1 := d
  unfold img spread
  show (if t.c * s + t.d = 0 then none else some (0 - (t.a * s + t.b) / (t.c * s + t.d))) = some 0 ↔ _
  by_cases h : t.c * s + t.d = 0
  · rw [if_pos h]
    refine ⟨(fun e => nomatch e), fun e => ?_⟩
    exfalso
    have : t.a * (t.c * s + t.d) - t.c * (t.a * s + t.b) = 1 := by grind
    rw [h, e] at this
    grind
  · rw [if_neg h]
    refine ⟨fun e => ?_, fun e => ?_⟩
    · have e := Option.some.inj e
      have e2 : (t.a * s + t.b) / (t.c * s + t.d) * (t.c * s + t.d) = t.a * s + t.b := by grind
      have e3 : (t.a * s + t.b) / (t.c * s + t.d) = 0 := by grind
      rw [e3] at e2
      grind
    · rw [e]
      congr 1
      grind
theorem grw_zero {t : Tab} (d : t.det = 1) {s : Rat} (h : t.a * s + t.b = 0) : grw t s = some t.a := by
  have d : t.a * t.d - t.b * t.c = 1 := d
  have k : t.a * (t.c * s + t.d) = 1 := by grind
  have n : t.c * s + t.d ≠ 0 := fun e => by rw [e] at k; grind
  unfold grw spread
  show (if t.c * s + t.d = 0 then none else some (1 / (t.c * s + t.d))) = _
  rw [if_neg n]
  congr 1
  grind
theorem does_bring {t : Tab} (d : t.det = 1) (s : Rat) (go : Option Rat) : doesB t (wishO s go) = bringB t s go := by
  cases go with
  | none =>
    show decide (img t s = some 0) = (decide (t.a * s + t.b = 0) && true)
    rw [Bool.and_true]
    exact decide_eq_decide.mpr (img_zero d s)
  | some g =>
    show (decide (img t s = some 0) && decide (grw t s = some g)) = (decide (t.a * s + t.b = 0) && decide (t.a = g))
    rw [decide_eq_decide.mpr (img_zero d s)]
    by_cases h : t.a * s + t.b = 0
    · rw [grw_zero d h]
      congr 1
      exact decide_eq_decide.mpr ⟨fun e => Option.some.inj e, fun e => congrArg some e⟩
    · rw [decide_eq_false h]; rfl
theorem glass1 {st : List (Str × Rat)} (so : StockOk st) {z : Str} (hz : z ∈ nms st) : (glassOf st z).length ≤ 1 := by
  rcases List.mem_cons.mp hz with rfl | m
  · rw [glass_no so.nm]; exact Nat.zero_le _
  · obtain ⟨k, hk, rfl⟩ := List.mem_map.mp m
    rw [glass_is so.nd hk]; exact Nat.le_refl _
theorem due_len9 {st : List (Str × Rat)} (so : StockOk st) (g0 : Rat) {gs : List Rat} {c : List Str} (h4 : gs.length ≤ 4) (cin : inN st gs.length c) : (dueB st g0 gs c).length ≤ 9 := by
  have all : ∀ l : List (Str × Rat), (∀ p ∈ l, p.1 ∈ nms st) → ((l.map (stepB st)).flatten).length ≤ 2 * l.length := by
    intro l
    induction l with
    | nil => intro _; exact Nat.zero_le _
    | cons p l ih =>
      intro h
      have h1 := ih fun q hq => h q (List.mem_cons_of_mem _ hq)
      have h2 := glass1 so (h p List.mem_cons_self)
      rw [List.map_cons, List.flatten_cons, List.length_append]
      have h3 : (stepB st p).length = (glassOf st p.1).length + 1 := by unfold stepB; rw [List.length_append]; rfl
      rw [List.length_cons]
      omega
  unfold dueB
  rw [List.length_cons]
  have h1 := all (c.zip gs) fun p hp => cin.2 _ (List.of_mem_zip hp).1
  have h2 : (c.zip gs).length ≤ 4 := by rw [List.length_zip, cin.1]; omega
  omega
theorem due_tb9 {st : List (Str × Rat)} (so : StockOk st) (h : ∀ k ∈ st, Bd 7 k.2) {g0 : Rat} {gs : List Rat} (hg : ∀ g ∈ g0 :: gs, Bd 7 g) {c : List Str} (h4 : gs.length ≤ 4) (cin : inN st gs.length c) : Tb 74 (tabOf (dueB st g0 gs c)) := by
  refine Lib.Tb.mono (tab_bd (due_bd7 h hg c)) ?_
  have := due_len9 so g0 h4 cin
  omega
theorem bent_e2 (ps : List Pc) (s : Rat) : (bend (.gap s :: ps) e2).1 = (tabOf ps).a * s + (tabOf ps).b := by
  have e : bend (.gap s :: ps) e2 = bend ps (s, 1) := by
    show bend ps ((0 + s * 1, 1) : Ray) = _
    rw [Rat.mul_one, Rat.zero_add]
  rw [e, bend_tab]
  show (tabOf ps).a * s + (tabOf ps).b * 1 = _
  rw [Rat.mul_one]
theorem bent_e1 (ps : List Pc) (s : Rat) : (bend (.gap s :: ps) e1).1 = (tabOf ps).a := by
  have e : bend (.gap s :: ps) e1 = bend ps e1 := by
    show bend ps ((1 + s * 0, 0) : Ray) = _
    rw [Rat.mul_zero, Rat.add_zero]
    rfl
  rw [e]
  rfl
def spBrg (K : PySem.W.Frag) : Sp := fun vs H Q _ => ∃ (lb : Addr) (pv gv : V) (bs : List V) (ps : List Pc) (s : Rat) (go : Option Rat), vs = [.ref lb, pv, gv] ∧ H lb = some (.lst bs) ∧ DVs K H bs (ps.map pcD) ∧ Good 7 ps ∧ ps.length ≤ 9 ∧ DV K H pv (frD s) ∧ Bd 150 s ∧ DV K H gv (ofrD go) ∧ ∀ H', Same H H' → Q (.bl (bringB (tabOf ps) s go)) H'
def spWsh65 (K : PySem.W.Frag) : Sp := fun vs H Q _ => ∃ (d ls lg : Addr) (ks gv : List V) (st : List (Str × Rat)) (g0 : Rat) (gs : List Rat), vs = [.ref d, .ref ls, .ref lg] ∧ SrcA H d ∧ H ls = some (.lst ks) ∧ DVs K H ks (st.map kindD) ∧ StockOk st ∧ (∀ k ∈ st, Bd 7 k.2) ∧ H lg = some (.lst gv) ∧ DVs K H gv ((g0 :: gs).map frD) ∧ gs.length ≤ 4 ∧ (∀ g ∈ g0 :: gs, Bd 7 g) ∧
  ls ≠ d ∧ lg ≠ d ∧ ∀ t pv wv H' s go, SrcA H' d → SD d H H' → SqT K H' t [pv, wv] → DV K H' pv (frD s) → DV K H' wv (ofrD go) → Bd 150 s → Q (.ref t) H'
theorem in_cs {K : PySem.W.Frag} {N : Addr → Prop} {H : Hp} {p : Addr} {xs : List V} {cs : List (List Str)} {x : V} {c : List Str} {Q : VK} (sok : ∀ c ∈ cs, ∀ z ∈ c, PyData.strOk z = true) (hp : SqL K H p xs) (lc : LcAt N H xs cs) (hx : DV K H x (chD c)) (cin : c ∈ cs) (k : Q (.bl true) H) : rInD K false x (.ref p) H Q := by
  have fc := flat_ch (sok c cin)
  refine ⟨p, xs, chD c, cs.map chD, rfl, hp, hx, lc.dvs, fc.c, Nat.le_trans fc.d (by decide), (flat_all (n := 1) fun d hd => ?_).1, ?_⟩
  · obtain ⟨c', hc', rfl⟩ := List.mem_map.mp hd
    exact flat_ch (sok c' hc')
  · have e : (cs.map chD).any (fun d => PyData.eqv d (chD c)) = true := List.any_eq_true.mpr ⟨chD c, List.mem_map.mpr ⟨c, cin, rfl⟩, SeqAt.eqv_refl _ fc.c⟩
    rw [e]
    exact k
end Lib
namespace K65
open PySem L2 Lib Fr Op
seal PE PT PW PA PS PSs PG PGs PI PO
def top (i : Nat) : Stmt := PySem.Challenge.pw_grindbench_k65_whole_wished_images.main.body.getD i (.Pass ⟨0, 0, 0, 0⟩)
abbrev s_is_whole : Stmt := top 9
theorem sc_is_whole : FnScope ["thing"] ["thing"] (defScope s_is_whole) := ⟨rfl, rfl, rfl, by decide +kernel, rfl, by decide +kernel, by decide +kernel⟩
abbrev s_common_divisor : Stmt := top 10
theorem sc_common_divisor : FnScope ["one", "other", "greater", "lesser", "rest"] ["one", "other"] (defScope s_common_divisor) := ⟨rfl, rfl, rfl, by decide +kernel, rfl, by decide +kernel, by decide +kernel⟩
abbrev s_is_ratio : Stmt := top 11
theorem sc_is_ratio : FnScope ["thing", "top", "bottom"] ["thing"] (defScope s_is_ratio) := ⟨rfl, rfl, rfl, by decide +kernel, rfl, by decide +kernel, by decide +kernel⟩
abbrev s_ratio_of : Stmt := top 12
theorem sc_ratio_of : FnScope ["top", "bottom", "divisor"] ["top", "bottom"] (defScope s_ratio_of) := ⟨rfl, rfl, rfl, by decide +kernel, rfl, by decide +kernel, by decide +kernel⟩
abbrev s_sum_of : Stmt := top 13
theorem sc_sum_of : FnScope ["one", "other"] ["one", "other"] (defScope s_sum_of) := ⟨rfl, rfl, rfl, by decide +kernel, rfl, by decide +kernel, by decide +kernel⟩
abbrev s_less_by : Stmt := top 14
theorem sc_less_by : FnScope ["one", "other"] ["one", "other"] (defScope s_less_by) := ⟨rfl, rfl, rfl, by decide +kernel, rfl, by decide +kernel, by decide +kernel⟩
abbrev s_product_of : Stmt := top 15
theorem sc_product_of : FnScope ["one", "other"] ["one", "other"] (defScope s_product_of) := ⟨rfl, rfl, rfl, by decide +kernel, rfl, by decide +kernel, by decide +kernel⟩
abbrev s_quotient_of : Stmt := top 16
theorem sc_quotient_of : FnScope ["one", "other"] ["one", "other"] (defScope s_quotient_of) := ⟨rfl, rfl, rfl, by decide +kernel, rfl, by decide +kernel, by decide +kernel⟩
abbrev s_is_less : Stmt := top 17
theorem sc_is_less : FnScope ["one", "other"] ["one", "other"] (defScope s_is_less) := ⟨rfl, rfl, rfl, by decide +kernel, rfl, by decide +kernel, by decide +kernel⟩
abbrev s_is_piece : Stmt := top 27
theorem sc_is_piece : FnScope ["thing"] ["thing"] (defScope s_is_piece) := ⟨rfl, rfl, rfl, by decide +kernel, rfl, by decide +kernel, by decide +kernel⟩
abbrev s_piece_of : Stmt := top 28
theorem sc_piece_of : FnScope ["told"] ["told"] (defScope s_piece_of) := ⟨rfl, rfl, rfl, by decide +kernel, rfl, by decide +kernel, by decide +kernel⟩
abbrev s_look_at : Stmt := top 29
theorem sc_look_at : FnScope ["bench", "number", "thing"] ["bench"] (defScope s_look_at) := ⟨rfl, rfl, rfl, by decide +kernel, rfl, by decide +kernel, by decide +kernel⟩
abbrev s_is_table : Stmt := top 33
theorem sc_is_table : FnScope ["thing"] ["thing"] (defScope s_is_table) := ⟨rfl, rfl, rfl, by decide +kernel, rfl, by decide +kernel, by decide +kernel⟩
abbrev s_look_at_table : Stmt := top 34
theorem sc_look_at_table : FnScope ["table"] ["table"] (defScope s_look_at_table) := ⟨rfl, rfl, rfl, by decide +kernel, rfl, by decide +kernel, by decide +kernel⟩
abbrev s_table_of_rays : Stmt := top 35
theorem sc_table_of_rays : FnScope ["high", "slanted"] ["high", "slanted"] (defScope s_table_of_rays) := ⟨rfl, rfl, rfl, by decide +kernel, rfl, by decide +kernel, by decide +kernel⟩
abbrev s_table_of : Stmt := top 36
theorem sc_table_of : FnScope ["bench", "high", "slanted", "told", "piece"] ["bench"] (defScope s_table_of) := ⟨rfl, rfl, rfl, by decide +kernel, rfl, by decide +kernel, by decide +kernel⟩
abbrev s_made_by : Stmt := top 37
theorem sc_made_by : FnScope ["table", "ray", "height", "slant"] ["table", "ray"] (defScope s_made_by) := ⟨rfl, rfl, rfl, by decide +kernel, rfl, by decide +kernel, by decide +kernel⟩
abbrev s_joined : Stmt := top 38
theorem sc_joined : FnScope ["first", "second"] ["first", "second"] (defScope s_joined) := ⟨rfl, rfl, rfl, by decide +kernel, rfl, by decide +kernel, by decide +kernel⟩
abbrev s_spread_of : Stmt := top 40
theorem sc_spread_of : FnScope ["table", "s", "height", "slant"] ["table", "s"] (defScope s_spread_of) := ⟨rfl, rfl, rfl, by decide +kernel, rfl, by decide +kernel, by decide +kernel⟩
abbrev s_image_of : Stmt := top 41
theorem sc_image_of : FnScope ["table", "s", "spread"] ["table", "s"] (defScope s_image_of) := ⟨rfl, rfl, rfl, by decide +kernel, rfl, by decide +kernel, by decide +kernel⟩
abbrev s_growth_of : Stmt := top 42
theorem sc_growth_of : FnScope ["table", "s", "spread"] ["table", "s"] (defScope s_growth_of) := ⟨rfl, rfl, rfl, by decide +kernel, rfl, by decide +kernel, by decide +kernel⟩
abbrev s_is_name : Stmt := top 46
theorem sc_is_name : FnScope ["thing"] ["thing"] (defScope s_is_name) := ⟨rfl, rfl, rfl, by decide +kernel, rfl, by decide +kernel, by decide +kernel⟩
abbrev s_is_kind : Stmt := top 54
theorem sc_is_kind : FnScope ["thing"] ["thing"] (defScope s_is_kind) := ⟨rfl, rfl, rfl, by decide +kernel, rfl, by decide +kernel, by decide +kernel⟩
abbrev s_is_stock : Stmt := top 55
theorem sc_is_stock : FnScope ["thing"] ["thing"] (defScope s_is_stock) := ⟨rfl, rfl, rfl, by decide +kernel, rfl, by decide +kernel, by decide +kernel⟩
abbrev s_look_at_gaps : Stmt := top 56
theorem sc_look_at_gaps : FnScope ["gaps"] ["gaps"] (defScope s_look_at_gaps) := ⟨rfl, rfl, rfl, by decide +kernel, rfl, by decide +kernel, by decide +kernel⟩
abbrev s_is_wish : Stmt := top 57
theorem sc_is_wish : FnScope ["thing"] ["thing"] (defScope s_is_wish) := ⟨rfl, rfl, rfl, by decide +kernel, rfl, by decide +kernel, by decide +kernel⟩
abbrev s_does : Stmt := top 58
theorem sc_does : FnScope ["table", "wish"] ["table", "wish"] (defScope s_does) := ⟨rfl, rfl, rfl, by decide +kernel, rfl, by decide +kernel, by decide +kernel⟩
abbrev s_glasses_in : Stmt := top 59
theorem sc_glasses_in : FnScope ["choice"] ["choice"] (defScope s_glasses_in) := ⟨rfl, rfl, rfl, by decide +kernel, rfl, by decide +kernel, by decide +kernel⟩
abbrev s__law_cell_at : Stmt := top 62
theorem sc__law_cell_at : FnScope ["_law_script", "_law_k"] ["_law_script", "_law_k"] (defScope s__law_cell_at) := ⟨rfl, rfl, rfl, by decide +kernel, rfl, by decide +kernel, by decide +kernel⟩
abbrev s__law_source : Stmt := top 63
theorem sc__law_source : FnScope ["_law_script", "_law_k", "_law_cell", "_law_seed"] ["_law_script", "_law_k"] (defScope s__law_source) := ⟨rfl, rfl, rfl, by decide +kernel, rfl, by decide +kernel, by decide +kernel⟩
abbrev s__law_draw : Stmt := top 64
theorem sc__law_draw : FnScope ["_law_source_here", "_law_many_here", "_law_digit"] ["_law_source_here", "_law_many_here"] (defScope s__law_draw) := ⟨rfl, rfl, rfl, by decide +kernel, rfl, by decide +kernel, by decide +kernel⟩
abbrev s__law_lowest : Stmt := top 65
theorem sc__law_lowest : FnScope ["_law_top", "_law_bottom", "_law_one", "_law_other"] ["_law_top", "_law_bottom"] (defScope s__law_lowest) := ⟨rfl, rfl, rfl, by decide +kernel, rfl, by decide +kernel, by decide +kernel⟩
abbrev s__law_part : Stmt := top 66
theorem sc__law_part : FnScope ["_law_source_here", "_law_most", "_law_top"] ["_law_source_here"] (defScope s__law_part) := ⟨rfl, rfl, rfl, by decide +kernel, rfl, by decide +kernel, by decide +kernel⟩
abbrev s__law_sum : Stmt := top 67
theorem sc__law_sum : FnScope ["_law_one", "_law_other"] ["_law_one", "_law_other"] (defScope s__law_sum) := ⟨rfl, rfl, rfl, by decide +kernel, rfl, by decide +kernel, by decide +kernel⟩
abbrev s__law_product : Stmt := top 68
theorem sc__law_product : FnScope ["_law_one", "_law_other"] ["_law_one", "_law_other"] (defScope s__law_product) := ⟨rfl, rfl, rfl, by decide +kernel, rfl, by decide +kernel, by decide +kernel⟩
abbrev s__law_less : Stmt := top 69
theorem sc__law_less : FnScope ["_law_one"] ["_law_one"] (defScope s__law_less) := ⟨rfl, rfl, rfl, by decide +kernel, rfl, by decide +kernel, by decide +kernel⟩
abbrev s__law_inverse : Stmt := top 70
theorem sc__law_inverse : FnScope ["_law_one"] ["_law_one"] (defScope s__law_inverse) := ⟨rfl, rfl, rfl, by decide +kernel, rfl, by decide +kernel, by decide +kernel⟩
abbrev s__law_bent : Stmt := top 71
theorem sc__law_bent : FnScope ["_law_bench_here", "_law_ray", "_law_height", "_law_slant", "_law_piece"] ["_law_bench_here", "_law_ray"] (defScope s__law_bent) := ⟨rfl, rfl, rfl, by decide +kernel, rfl, by decide +kernel, by decide +kernel⟩
abbrev s__law_table : Stmt := top 72
theorem sc__law_table : FnScope ["_law_bench_here", "_law_one", "_law_other"] ["_law_bench_here"] (defScope s__law_table) := ⟨rfl, rfl, rfl, by decide +kernel, rfl, by decide +kernel, by decide +kernel⟩
abbrev s__law_name : Stmt := top 73
theorem sc__law_name : FnScope ["_law_salt", "_law_k", "_law_letters", "_law_word", "_law_at"] ["_law_salt", "_law_k"] (defScope s__law_name) := ⟨rfl, rfl, rfl, by decide +kernel, rfl, by decide +kernel, by decide +kernel⟩
abbrev s__law_stock : Stmt := top 74
theorem sc__law_stock : FnScope ["_law_source_here", "_law_most", "_law_salt", "_law_stock_here", "_law_k", "_law_strength"] ["_law_source_here", "_law_most"] (defScope s__law_stock) := ⟨rfl, rfl, rfl, by decide +kernel, rfl, by decide +kernel, by decide +kernel⟩
abbrev s__law_gaps : Stmt := top 75
theorem sc__law_gaps : FnScope ["_law_source_here", "_law_most", "_law_gaps_here", "_law_k"] ["_law_source_here", "_law_most"] (defScope s__law_gaps) := ⟨rfl, rfl, rfl, by decide +kernel, rfl, by decide +kernel, by decide +kernel⟩
abbrev s__law_choices : Stmt := top 76
theorem sc__law_choices : FnScope ["_law_stock_here", "_law_slots", "_law_found", "_law_k", "_law_longer", "_law_name_here"] ["_law_stock_here", "_law_slots"] (defScope s__law_choices) := ⟨rfl, rfl, rfl, by decide +kernel, rfl, by decide +kernel, by decide +kernel⟩
abbrev s__law_many : Stmt := top 77
theorem sc__law_many : FnScope ["_law_choice"] ["_law_choice"] (defScope s__law_many) := ⟨rfl, rfl, rfl, by decide +kernel, rfl, by decide +kernel, by decide +kernel⟩
abbrev s__law_bench : Stmt := top 78
theorem sc__law_bench : FnScope ["_law_stock_here", "_law_gaps_here", "_law_choice", "_law_strengths", "_law_bench_here", "_law_k"] ["_law_stock_here", "_law_gaps_here", "_law_choice"] (defScope s__law_bench) := ⟨rfl, rfl, rfl, by decide +kernel, rfl, by decide +kernel, by decide +kernel⟩
abbrev s__law_brings : Stmt := top 79
theorem sc__law_brings : FnScope ["_law_bench_here", "_law_place", "_law_growth", "_law_all_pieces"] ["_law_bench_here", "_law_place", "_law_growth"] (defScope s__law_brings) := ⟨rfl, rfl, rfl, by decide +kernel, rfl, by decide +kernel, by decide +kernel⟩
abbrev s__law_wish : Stmt := top 80
theorem sc__law_wish : FnScope ["_law_source_here", "_law_stock_here", "_law_gaps_here", "_law_choices_here", "_law_bench_here", "_law_a", "_law_b", "_law_c", "_law_d", "_law_place", "_law_growth"] ["_law_source_here", "_law_stock_here", "_law_gaps_here"] (defScope s__law_wish) := ⟨rfl, rfl, rfl, by decide +kernel, rfl, by decide +kernel, by decide +kernel⟩
abbrev s__law_step : Stmt := top 81
theorem sc__law_step : FnScope ["_law_source_here", "_law_sizes", "_law_stock_here", "_law_gaps_here", "_law_place", "_law_growth", "_law_choices_here", "_law_good", "_law_wish_here", "_law_found"] ["_law_source_here", "_law_sizes"] (defScope s__law_step) := ⟨rfl, rfl, rfl, by decide +kernel, rfl, by decide +kernel, by decide +kernel⟩
abbrev s_law : Stmt := top 82
theorem sc_law : FnScope ["_law_script", "_law_k", "_law_source_here", "_law_sizes"] ["_law_script"] (defScope s_law) := ⟨rfl, rfl, rfl, by decide +kernel, rfl, by decide +kernel, by decide +kernel⟩
abbrev s_NoBench_init : Stmt := inClass (top 7) 0
theorem sc_NoBench_init : FnScope ["self", "at"] ["self", "at"] (defScope s_NoBench_init) := ⟨rfl, rfl, rfl, by decide +kernel, rfl, by decide +kernel, by decide +kernel⟩
abbrev s_Piece_bent : Stmt := inClass (top 23) 1
theorem sc_Piece_bent : FnScope ["self", "ray"] ["self", "ray"] (defScope s_Piece_bent) := ⟨rfl, rfl, rfl, by decide +kernel, rfl, by decide +kernel, by decide +kernel⟩
abbrev s_Gap_init : Stmt := inClass (top 24) 0
theorem sc_Gap_init : FnScope ["self", "length"] ["self", "length"] (defScope s_Gap_init) := ⟨rfl, rfl, rfl, by decide +kernel, rfl, by decide +kernel, by decide +kernel⟩
abbrev s_Gap_bent : Stmt := inClass (top 24) 1
theorem sc_Gap_bent : FnScope ["self", "ray"] ["self", "ray"] (defScope s_Gap_bent) := ⟨rfl, rfl, rfl, by decide +kernel, rfl, by decide +kernel, by decide +kernel⟩
abbrev s_Glass_init : Stmt := inClass (top 25) 0
theorem sc_Glass_init : FnScope ["self", "strength"] ["self", "strength"] (defScope s_Glass_init) := ⟨rfl, rfl, rfl, by decide +kernel, rfl, by decide +kernel, by decide +kernel⟩
abbrev s_Glass_bent : Stmt := inClass (top 25) 1
theorem sc_Glass_bent : FnScope ["self", "ray"] ["self", "ray"] (defScope s_Glass_bent) := ⟨rfl, rfl, rfl, by decide +kernel, rfl, by decide +kernel, by decide +kernel⟩
abbrev s_Stop_init : Stmt := inClass (top 26) 0
theorem sc_Stop_init : FnScope ["self", "low", "high"] ["self", "low", "high"] (defScope s_Stop_init) := ⟨rfl, rfl, rfl, by decide +kernel, rfl, by decide +kernel, by decide +kernel⟩
abbrev s_Shop_init : Stmt := inClass (top 60) 0
theorem sc_Shop_init : FnScope ["self", "stock"] ["self", "stock"] (defScope s_Shop_init) := ⟨rfl, rfl, rfl, by decide +kernel, rfl, by decide +kernel, by decide +kernel⟩
abbrev s_Shop_kinds : Stmt := inClass (top 60) 1
abbrev s_Shop_pieces_for : Stmt := inClass (top 60) 2
theorem sc_Shop_pieces_for : FnScope ["self", "name"] ["self", "name"] (defScope s_Shop_pieces_for) := ⟨rfl, rfl, rfl, by decide +kernel, rfl, by decide +kernel, by decide +kernel⟩
abbrev s_Shop_tables_for : Stmt := inClass (top 60) 4
theorem sc_Shop_tables_for : FnScope ["self", "gaps", "names", "found", "gap", "steps", "longer", "choice", "table", "name", "step"] ["self", "gaps"] (defScope s_Shop_tables_for) := ⟨rfl, rfl, rfl, by decide +kernel, rfl, by decide +kernel, by decide +kernel⟩
abbrev s_Shop_fewest : Stmt := inClass (top 60) 5
theorem sc_Shop_fewest : FnScope ["self", "gaps", "wish", "doing"] ["self", "gaps", "wish"] (defScope s_Shop_fewest) := ⟨rfl, rfl, rfl, by decide +kernel, rfl, by decide +kernel, by decide +kernel⟩
structure Adr where
  z0 : Nat := 0
  BenchError : Addr
  NoNumber : Addr
  NoTable : Addr
  NoStock : Addr
  NoWish : Addr
  NoBench : Addr
  Piece : Addr
  Gap : Addr
  Glass : Addr
  Stop : Addr
  Shop : Addr
  NOUGHT : Addr
  ONE : Addr
  tGAP : Tok
  tGLASS : Tok
  tSTOP : Tok
  tMOST_PIECES : Tok
  tLETTERS : Tok
  tMOST_LETTERS : Tok
  tMOST_KINDS : Tok
  tMOST_GAPS : Tok
  tNO_GLASS : Tok
  tTABLE : Tok
  tIMAGE : Tok
  tGROWN : Tok
structure Exc (K : PySem.W.Frag) (mg : Str → Option Value) (ad : Adr) : Prop where
  tt : True := trivial
  m_BenchError : mg "BenchError" = some (.ref ad.BenchError)
  m_NoNumber : mg "NoNumber" = some (.ref ad.NoNumber)
  m_NoTable : mg "NoTable" = some (.ref ad.NoTable)
  m_NoStock : mg "NoStock" = some (.ref ad.NoStock)
  m_NoWish : mg "NoWish" = some (.ref ad.NoWish)
  m_NoBench : mg "NoBench" = some (.ref ad.NoBench)
  m_Piece : mg "Piece" = some (.ref ad.Piece)
  m_Gap : mg "Gap" = some (.ref ad.Gap)
  m_Glass : mg "Glass" = some (.ref ad.Glass)
  m_Stop : mg "Stop" = some (.ref ad.Stop)
  m_Shop : mg "Shop" = some (.ref ad.Shop)
  m_GAP : mg "GAP" = some (.str "gap" ad.tGAP)
  m_GLASS : mg "GLASS" = some (.str "glass" ad.tGLASS)
  m_STOP : mg "STOP" = some (.str "stop" ad.tSTOP)
  m_MOST_PIECES : mg "MOST_PIECES" = some (.int 60 ad.tMOST_PIECES)
  m_LETTERS : mg "LETTERS" = some (.str "abcdefghijklmnopqrstuvwxyz" ad.tLETTERS)
  m_MOST_LETTERS : mg "MOST_LETTERS" = some (.int 8 ad.tMOST_LETTERS)
  m_MOST_KINDS : mg "MOST_KINDS" = some (.int 4 ad.tMOST_KINDS)
  m_MOST_GAPS : mg "MOST_GAPS" = some (.int 5 ad.tMOST_GAPS)
  m_NO_GLASS : mg "NO_GLASS" = some (.str "" ad.tNO_GLASS)
  m_TABLE : mg "TABLE" = some (.str "table" ad.tTABLE)
  m_IMAGE : mg "IMAGE" = some (.str "image" ad.tIMAGE)
  m_GROWN : mg "GROWN" = some (.str "grown" ad.tGROWN)
  c_NoWish : ExcCls K mg "NoWish" ad.NoWish
  l_Gap : Cls K ad.Gap
  i_Gap : MkFn K mg "Gap" ad.Gap "Gap.__init__" s_Gap_init
  q_Gap_bent : MtFn K ad.Gap "bent" "Gap.bent" s_Gap_bent
  n_Gap_length : NoAttr K ad.Gap "length"
  l_Glass : Cls K ad.Glass
  i_Glass : MkFn K mg "Glass" ad.Glass "Glass.__init__" s_Glass_init
  q_Glass_bent : MtFn K ad.Glass "bent" "Glass.bent" s_Glass_bent
  n_Glass_strength : NoAttr K ad.Glass "strength"
  l_Stop : Cls K ad.Stop
  i_Stop : MkFn K mg "Stop" ad.Stop "Stop.__init__" s_Stop_init
  q_Stop_bent : MtFn K ad.Stop "bent" "Piece.bent" s_Piece_bent
  n_Stop_low : NoAttr K ad.Stop "low"
  n_Stop_high : NoAttr K ad.Stop "high"
  l_Shop : Cls K ad.Shop
  i_Shop : MkFn K mg "Shop" ad.Shop "Shop.__init__" s_Shop_init
  q_Shop_pieces_for : MtFn K ad.Shop "pieces_for" "Shop.pieces_for" s_Shop_pieces_for
  q_Shop_tables_for : MtFn K ad.Shop "tables_for" "Shop.tables_for" s_Shop_tables_for
  q_Shop_fewest : MtFn K ad.Shop "fewest" "Shop.fewest" s_Shop_fewest
  q_Shop_kinds : MtFn K ad.Shop "kinds" "Shop.kinds" s_Shop_kinds
  n_Shop_stock : NoAttr K ad.Shop "stock"
  j_NoBench : XFn K mg "NoBench" ad.NoBench ad.BenchError "NoBench.__init__" s_NoBench_init
  m_NOUGHT : mg "NOUGHT" = some (.ref ad.NOUGHT)
  s_NOUGHT : ∀ H : Hp, SqT K H ad.NOUGHT [.int 0, .int 1]
  m_ONE : mg "ONE" = some (.ref ad.ONE)
  s_ONE : ∀ H : Hp, SqT K H ad.ONE [.int 1, .int 1]
structure Txt (K : PySem.W.Frag) (mg : Str → Option Value) (ad : Adr) : Prop where
  ex : Exc K mg ad
  abs : mg "abs" = none
  all : mg "all" = none
  bool : mg "bool" = none
  dict : mg "dict" = none
  enumerate : mg "enumerate" = none
  int : mg "int" = none
  isinstance : mg "isinstance" = none
  len : mg "len" = none
  list : mg "list" = none
  min : mg "min" = none
  range : mg "range" = none
  set : mg "set" = none
  str : mg "str" = none
  tuple : mg "tuple" = none
  t_is_whole : TopFn K mg "is_whole" s_is_whole
  t_common_divisor : TopFn K mg "common_divisor" s_common_divisor
  t_is_ratio : TopFn K mg "is_ratio" s_is_ratio
  t_ratio_of : TopFn K mg "ratio_of" s_ratio_of
  t_sum_of : TopFn K mg "sum_of" s_sum_of
  t_less_by : TopFn K mg "less_by" s_less_by
  t_product_of : TopFn K mg "product_of" s_product_of
  t_quotient_of : TopFn K mg "quotient_of" s_quotient_of
  t_is_less : TopFn K mg "is_less" s_is_less
  t_is_piece : TopFn K mg "is_piece" s_is_piece
  t_piece_of : TopFn K mg "piece_of" s_piece_of
  t_look_at : TopFn K mg "look_at" s_look_at
  t_is_table : TopFn K mg "is_table" s_is_table
  t_look_at_table : TopFn K mg "look_at_table" s_look_at_table
  t_table_of_rays : TopFn K mg "table_of_rays" s_table_of_rays
  t_table_of : TopFn K mg "table_of" s_table_of
  t_made_by : TopFn K mg "made_by" s_made_by
  t_joined : TopFn K mg "joined" s_joined
  t_spread_of : TopFn K mg "spread_of" s_spread_of
  t_image_of : TopFn K mg "image_of" s_image_of
  t_growth_of : TopFn K mg "growth_of" s_growth_of
  t_is_name : TopFn K mg "is_name" s_is_name
  t_is_kind : TopFn K mg "is_kind" s_is_kind
  t_is_stock : TopFn K mg "is_stock" s_is_stock
  t_look_at_gaps : TopFn K mg "look_at_gaps" s_look_at_gaps
  t_is_wish : TopFn K mg "is_wish" s_is_wish
  t_does : TopFn K mg "does" s_does
  t_glasses_in : TopFn K mg "glasses_in" s_glasses_in
  t__law_cell_at : TopFn K mg "_law_cell_at" s__law_cell_at
  t__law_source : TopFn K mg "_law_source" s__law_source
  t__law_draw : TopFn K mg "_law_draw" s__law_draw
  t__law_lowest : TopFn K mg "_law_lowest" s__law_lowest
  t__law_part : TopFn K mg "_law_part" s__law_part
  t__law_sum : TopFn K mg "_law_sum" s__law_sum
  t__law_product : TopFn K mg "_law_product" s__law_product
  t__law_less : TopFn K mg "_law_less" s__law_less
  t__law_inverse : TopFn K mg "_law_inverse" s__law_inverse
  t__law_bent : TopFn K mg "_law_bent" s__law_bent
  t__law_table : TopFn K mg "_law_table" s__law_table
  t__law_name : TopFn K mg "_law_name" s__law_name
  t__law_stock : TopFn K mg "_law_stock" s__law_stock
  t__law_gaps : TopFn K mg "_law_gaps" s__law_gaps
  t__law_choices : TopFn K mg "_law_choices" s__law_choices
  t__law_many : TopFn K mg "_law_many" s__law_many
  t__law_bench : TopFn K mg "_law_bench" s__law_bench
  t__law_brings : TopFn K mg "_law_brings" s__law_brings
  t__law_wish : TopFn K mg "_law_wish" s__law_wish
  t__law_step : TopFn K mg "_law_step" s__law_step
theorem exc_mk {K : PySem.W.Frag} {h : Heap} {mg : Str → Option Value} {CBenchError CNoNumber CNoTable CNoStock CNoWish CNoBench CPiece CGap CGlass CStop CShop CNOUGHT CONE : Addr} {tGAP : Tok} {tGLASS : Tok} {tSTOP : Tok} {tMOST_PIECES : Tok} {tLETTERS : Tok} {tMOST_LETTERS : Tok} {tMOST_KINDS : Tok} {tMOST_GAPS : Tok} {tNO_GLASS : Tok} {tTABLE : Tok} {tIMAGE : Tok} {tGROWN : Tok} {f_Gap_init : Addr} {oc_Gap_init : Value} {od_Gap_init an_Gap_init : Option Addr} {sl_Gap_init : Array (Option Value)} {kV_Gap_init dc_Gap_init pm_Gap_init cd_Gap_init ct_Gap_init : Value} {f_Gap_bent : Addr} {oc_Gap_bent : Value} {od_Gap_bent an_Gap_bent : Option Addr} {sl_Gap_bent : Array (Option Value)} {kV_Gap_bent dc_Gap_bent pm_Gap_bent cd_Gap_bent ct_Gap_bent : Value} {f_Glass_init : Addr} {oc_Glass_init : Value} {od_Glass_init an_Glass_init : Option Addr} {sl_Glass_init : Array (Option Value)} {kV_Glass_init dc_Glass_init pm_Glass_init cd_Glass_init ct_Glass_init : Value} {f_Glass_bent : Addr} {oc_Glass_bent : Value} {od_Glass_bent an_Glass_bent : Option Addr} {sl_Glass_bent : Array (Option Value)} {kV_Glass_bent dc_Glass_bent pm_Glass_bent cd_Glass_bent ct_Glass_bent : Value} {f_Stop_init : Addr} {oc_Stop_init : Value} {od_Stop_init an_Stop_init : Option Addr} {sl_Stop_init : Array (Option Value)} {kV_Stop_init dc_Stop_init pm_Stop_init cd_Stop_init ct_Stop_init : Value} {f_Stop_bent : Addr} {oc_Stop_bent : Value} {od_Stop_bent an_Stop_bent : Option Addr} {sl_Stop_bent : Array (Option Value)} {kV_Stop_bent dc_Stop_bent pm_Stop_bent cd_Stop_bent ct_Stop_bent : Value} {f_Shop_init : Addr} {oc_Shop_init : Value} {od_Shop_init an_Shop_init : Option Addr} {sl_Shop_init : Array (Option Value)} {kV_Shop_init dc_Shop_init pm_Shop_init cd_Shop_init ct_Shop_init : Value} {f_Shop_pieces_for : Addr} {oc_Shop_pieces_for : Value} {od_Shop_pieces_for an_Shop_pieces_for : Option Addr} {sl_Shop_pieces_for : Array (Option Value)} {kV_Shop_pieces_for dc_Shop_pieces_for pm_Shop_pieces_for cd_Shop_pieces_for ct_Shop_pieces_for : Value} {f_Shop_tables_for : Addr} {oc_Shop_tables_for : Value} {od_Shop_tables_for an_Shop_tables_for : Option Addr} {sl_Shop_tables_for : Array (Option Value)} {kV_Shop_tables_for dc_Shop_tables_for pm_Shop_tables_for cd_Shop_tables_for ct_Shop_tables_for : Value} {f_Shop_fewest : Addr} {oc_Shop_fewest : Value} {od_Shop_fewest an_Shop_fewest : Option Addr} {sl_Shop_fewest : Array (Option Value)} {kV_Shop_fewest dc_Shop_fewest pm_Shop_fewest cd_Shop_fewest ct_Shop_fewest : Value} {f_Shop_kinds : Addr} {oc_Shop_kinds : Value} {od_Shop_kinds an_Shop_kinds : Option Addr} {sl_Shop_kinds : Array (Option Value)} {kV_Shop_kinds dc_Shop_kinds pm_Shop_kinds cd_Shop_kinds ct_Shop_kinds : Value} {f_NoBench_init : Addr} {oc_NoBench_init : Value} {od_NoBench_init an_NoBench_init : Option Addr} {sl_NoBench_init : Array (Option Value)} {kV_NoBench_init dc_NoBench_init pm_NoBench_init cd_NoBench_init ct_NoBench_init : Value} {nm_NoBench_init qn_NoBench_init : Str} {N_NoBench_init : Addr} {bs_NoBench_init sub_NoBench_init : List Value} {sn_NoBench_init : List Str} {ab_NoBench_init : Bool} {col_NoBench_init : Option Bool} {dd_NoBench_init : Option Addr} {k0_NoBench_init k1_NoBench_init k2_NoBench_init k3_NoBench_init k5_NoBench_init : Option Value} {tk_NOUGHT_0 : Tok} {tk_NOUGHT_1 : Tok} {dd_NOUGHT : Option Addr} {nn_NOUGHT : Nat} {sl_NOUGHT : Array (Option Value)} {tk_ONE_0 : Tok} {tk_ONE_1 : Tok} {dd_ONE : Option Addr} {nn_ONE : Nat} {sl_ONE : Array (Option Value)} (X : K.In h) (G : h.Ns mainGlobals mg) (m_BenchError : PySem.W.nsIn K mainGlobals "BenchError" = some (some (.ref CBenchError))) (m_NoNumber : PySem.W.nsIn K mainGlobals "NoNumber" = some (some (.ref CNoNumber))) (m_NoTable : PySem.W.nsIn K mainGlobals "NoTable" = some (some (.ref CNoTable))) (m_NoStock : PySem.W.nsIn K mainGlobals "NoStock" = some (some (.ref CNoStock))) (m_NoWish : PySem.W.nsIn K mainGlobals "NoWish" = some (some (.ref CNoWish))) (m_NoBench : PySem.W.nsIn K mainGlobals "NoBench" = some (some (.ref CNoBench))) (m_Piece : PySem.W.nsIn K mainGlobals "Piece" = some (some (.ref CPiece))) (m_Gap : PySem.W.nsIn K mainGlobals "Gap" = some (some (.ref CGap))) (m_Glass : PySem.W.nsIn K mainGlobals "Glass" = some (some (.ref CGlass))) (m_Stop : PySem.W.nsIn K mainGlobals "Stop" = some (some (.ref CStop))) (m_Shop : PySem.W.nsIn K mainGlobals "Shop" = some (some (.ref CShop))) (m_GAP : PySem.W.nsIn K mainGlobals "GAP" = some (some (.str "gap" tGAP))) (m_GLASS : PySem.W.nsIn K mainGlobals "GLASS" = some (some (.str "glass" tGLASS))) (m_STOP : PySem.W.nsIn K mainGlobals "STOP" = some (some (.str "stop" tSTOP))) (m_MOST_PIECES : PySem.W.nsIn K mainGlobals "MOST_PIECES" = some (some (.int 60 tMOST_PIECES))) (m_LETTERS : PySem.W.nsIn K mainGlobals "LETTERS" = some (some (.str "abcdefghijklmnopqrstuvwxyz" tLETTERS))) (m_MOST_LETTERS : PySem.W.nsIn K mainGlobals "MOST_LETTERS" = some (some (.int 8 tMOST_LETTERS))) (m_MOST_KINDS : PySem.W.nsIn K mainGlobals "MOST_KINDS" = some (some (.int 4 tMOST_KINDS))) (m_MOST_GAPS : PySem.W.nsIn K mainGlobals "MOST_GAPS" = some (some (.int 5 tMOST_GAPS))) (m_NO_GLASS : PySem.W.nsIn K mainGlobals "NO_GLASS" = some (some (.str "" tNO_GLASS))) (m_TABLE : PySem.W.nsIn K mainGlobals "TABLE" = some (some (.str "table" tTABLE))) (m_IMAGE : PySem.W.nsIn K mainGlobals "IMAGE" = some (some (.str "image" tIMAGE))) (m_GROWN : PySem.W.nsIn K mainGlobals "GROWN" = some (some (.str "grown" tGROWN))) (o_NoWish : PySem.W.excIn K CNoWish [.type "ValueError", .type "Exception", .type "BaseException", .type "object"] "ValueError.__new__" = true) (pg_Gap : PySem.W.plainGet K CGap Str.empty = true) (hd_Gap : PySem.W.hasDictIn K CGap = true) (po_Gap : PySem.W.plainOver K CGap = true) (sa_Gap : PySem.W.findIn K (.ref CGap) "__setattr__" = some (some (.builtin "object.__setattr__"))) (mk_Gap_init : PySem.W.makesIn K CGap = true) (a_Gap_init : PySem.W.findIn K (.ref CGap) "__init__" = some (some (.ref f_Gap_init))) (fn_Gap_init : PySem.W.isFn K (.ref f_Gap_init) = true) (kc_Gap_init : PySem.W.keepIn K (.ref CGap) = true) (l_Gap_init : K.lookup f_Gap_init = some ⟨oc_Gap_init, od_Gap_init, .func (PySem.W.fnOf "__init__" "Gap.__init__" (defArgs s_Gap_init) (defBody s_Gap_init) (defScope s_Gap_init) .none kV_Gap_init dc_Gap_init pm_Gap_init an_Gap_init cd_Gap_init ct_Gap_init), sl_Gap_init⟩) (c_Gap_init : PySem.W.codeIn K cd_Gap_init "Gap.__init__" = true) (kp_Gap_init : PySem.W.keepIn K (.ref f_Gap_init) = true) (a_Gap_bent : PySem.W.findIn K (.ref CGap) "bent" = some (some (.ref f_Gap_bent))) (fn_Gap_bent : PySem.W.isFn K (.ref f_Gap_bent) = true) (kp_Gap_bent : PySem.W.keepIn K (.ref f_Gap_bent) = true) (l_Gap_bent : K.lookup f_Gap_bent = some ⟨oc_Gap_bent, od_Gap_bent, .func (PySem.W.fnOf "bent" "Gap.bent" (defArgs s_Gap_bent) (defBody s_Gap_bent) (defScope s_Gap_bent) .none kV_Gap_bent dc_Gap_bent pm_Gap_bent an_Gap_bent cd_Gap_bent ct_Gap_bent), sl_Gap_bent⟩) (c_Gap_bent : PySem.W.codeIn K cd_Gap_bent "Gap.bent" = true) (n_Gap_length : PySem.W.findIn K (.ref CGap) "length" = some none) (pg_Glass : PySem.W.plainGet K CGlass Str.empty = true) (hd_Glass : PySem.W.hasDictIn K CGlass = true) (po_Glass : PySem.W.plainOver K CGlass = true) (sa_Glass : PySem.W.findIn K (.ref CGlass) "__setattr__" = some (some (.builtin "object.__setattr__"))) (mk_Glass_init : PySem.W.makesIn K CGlass = true) (a_Glass_init : PySem.W.findIn K (.ref CGlass) "__init__" = some (some (.ref f_Glass_init))) (fn_Glass_init : PySem.W.isFn K (.ref f_Glass_init) = true) (kc_Glass_init : PySem.W.keepIn K (.ref CGlass) = true) (l_Glass_init : K.lookup f_Glass_init = some ⟨oc_Glass_init, od_Glass_init, .func (PySem.W.fnOf "__init__" "Glass.__init__" (defArgs s_Glass_init) (defBody s_Glass_init) (defScope s_Glass_init) .none kV_Glass_init dc_Glass_init pm_Glass_init an_Glass_init cd_Glass_init ct_Glass_init), sl_Glass_init⟩) (c_Glass_init : PySem.W.codeIn K cd_Glass_init "Glass.__init__" = true) (kp_Glass_init : PySem.W.keepIn K (.ref f_Glass_init) = true) (a_Glass_bent : PySem.W.findIn K (.ref CGlass) "bent" = some (some (.ref f_Glass_bent))) (fn_Glass_bent : PySem.W.isFn K (.ref f_Glass_bent) = true) (kp_Glass_bent : PySem.W.keepIn K (.ref f_Glass_bent) = true) (l_Glass_bent : K.lookup f_Glass_bent = some ⟨oc_Glass_bent, od_Glass_bent, .func (PySem.W.fnOf "bent" "Glass.bent" (defArgs s_Glass_bent) (defBody s_Glass_bent) (defScope s_Glass_bent) .none kV_Glass_bent dc_Glass_bent pm_Glass_bent an_Glass_bent cd_Glass_bent ct_Glass_bent), sl_Glass_bent⟩) (c_Glass_bent : PySem.W.codeIn K cd_Glass_bent "Glass.bent" = true) (n_Glass_strength : PySem.W.findIn K (.ref CGlass) "strength" = some none) (pg_Stop : PySem.W.plainGet K CStop Str.empty = true) (hd_Stop : PySem.W.hasDictIn K CStop = true) (po_Stop : PySem.W.plainOver K CStop = true) (sa_Stop : PySem.W.findIn K (.ref CStop) "__setattr__" = some (some (.builtin "object.__setattr__"))) (mk_Stop_init : PySem.W.makesIn K CStop = true) (a_Stop_init : PySem.W.findIn K (.ref CStop) "__init__" = some (some (.ref f_Stop_init))) (fn_Stop_init : PySem.W.isFn K (.ref f_Stop_init) = true) (kc_Stop_init : PySem.W.keepIn K (.ref CStop) = true) (l_Stop_init : K.lookup f_Stop_init = some ⟨oc_Stop_init, od_Stop_init, .func (PySem.W.fnOf "__init__" "Stop.__init__" (defArgs s_Stop_init) (defBody s_Stop_init) (defScope s_Stop_init) .none kV_Stop_init dc_Stop_init pm_Stop_init an_Stop_init cd_Stop_init ct_Stop_init), sl_Stop_init⟩) (c_Stop_init : PySem.W.codeIn K cd_Stop_init "Stop.__init__" = true) (kp_Stop_init : PySem.W.keepIn K (.ref f_Stop_init) = true) (a_Stop_bent : PySem.W.findIn K (.ref CStop) "bent" = some (some (.ref f_Stop_bent))) (fn_Stop_bent : PySem.W.isFn K (.ref f_Stop_bent) = true) (kp_Stop_bent : PySem.W.keepIn K (.ref f_Stop_bent) = true) (l_Stop_bent : K.lookup f_Stop_bent = some ⟨oc_Stop_bent, od_Stop_bent, .func (PySem.W.fnOf "bent" "Piece.bent" (defArgs s_Piece_bent) (defBody s_Piece_bent) (defScope s_Piece_bent) .none kV_Stop_bent dc_Stop_bent pm_Stop_bent an_Stop_bent cd_Stop_bent ct_Stop_bent), sl_Stop_bent⟩) (c_Stop_bent : PySem.W.codeIn K cd_Stop_bent "Piece.bent" = true) (n_Stop_low : PySem.W.findIn K (.ref CStop) "low" = some none) (n_Stop_high : PySem.W.findIn K (.ref CStop) "high" = some none) (pg_Shop : PySem.W.plainGet K CShop Str.empty = true) (hd_Shop : PySem.W.hasDictIn K CShop = true) (po_Shop : PySem.W.plainOver K CShop = true) (sa_Shop : PySem.W.findIn K (.ref CShop) "__setattr__" = some (some (.builtin "object.__setattr__"))) (mk_Shop_init : PySem.W.makesIn K CShop = true) (a_Shop_init : PySem.W.findIn K (.ref CShop) "__init__" = some (some (.ref f_Shop_init))) (fn_Shop_init : PySem.W.isFn K (.ref f_Shop_init) = true) (kc_Shop_init : PySem.W.keepIn K (.ref CShop) = true) (l_Shop_init : K.lookup f_Shop_init = some ⟨oc_Shop_init, od_Shop_init, .func (PySem.W.fnOf "__init__" "Shop.__init__" (defArgs s_Shop_init) (defBody s_Shop_init) (defScope s_Shop_init) .none kV_Shop_init dc_Shop_init pm_Shop_init an_Shop_init cd_Shop_init ct_Shop_init), sl_Shop_init⟩) (c_Shop_init : PySem.W.codeIn K cd_Shop_init "Shop.__init__" = true) (kp_Shop_init : PySem.W.keepIn K (.ref f_Shop_init) = true) (a_Shop_pieces_for : PySem.W.findIn K (.ref CShop) "pieces_for" = some (some (.ref f_Shop_pieces_for))) (fn_Shop_pieces_for : PySem.W.isFn K (.ref f_Shop_pieces_for) = true) (kp_Shop_pieces_for : PySem.W.keepIn K (.ref f_Shop_pieces_for) = true) (l_Shop_pieces_for : K.lookup f_Shop_pieces_for = some ⟨oc_Shop_pieces_for, od_Shop_pieces_for, .func (PySem.W.fnOf "pieces_for" "Shop.pieces_for" (defArgs s_Shop_pieces_for) (defBody s_Shop_pieces_for) (defScope s_Shop_pieces_for) .none kV_Shop_pieces_for dc_Shop_pieces_for pm_Shop_pieces_for an_Shop_pieces_for cd_Shop_pieces_for ct_Shop_pieces_for), sl_Shop_pieces_for⟩) (c_Shop_pieces_for : PySem.W.codeIn K cd_Shop_pieces_for "Shop.pieces_for" = true) (a_Shop_tables_for : PySem.W.findIn K (.ref CShop) "tables_for" = some (some (.ref f_Shop_tables_for))) (fn_Shop_tables_for : PySem.W.isFn K (.ref f_Shop_tables_for) = true) (kp_Shop_tables_for : PySem.W.keepIn K (.ref f_Shop_tables_for) = true) (l_Shop_tables_for : K.lookup f_Shop_tables_for = some ⟨oc_Shop_tables_for, od_Shop_tables_for, .func (PySem.W.fnOf "tables_for" "Shop.tables_for" (defArgs s_Shop_tables_for) (defBody s_Shop_tables_for) (defScope s_Shop_tables_for) .none kV_Shop_tables_for dc_Shop_tables_for pm_Shop_tables_for an_Shop_tables_for cd_Shop_tables_for ct_Shop_tables_for), sl_Shop_tables_for⟩) (c_Shop_tables_for : PySem.W.codeIn K cd_Shop_tables_for "Shop.tables_for" = true) (a_Shop_fewest : PySem.W.findIn K (.ref CShop) "fewest" = some (some (.ref f_Shop_fewest))) (fn_Shop_fewest : PySem.W.isFn K (.ref f_Shop_fewest) = true) (kp_Shop_fewest : PySem.W.keepIn K (.ref f_Shop_fewest) = true) (l_Shop_fewest : K.lookup f_Shop_fewest = some ⟨oc_Shop_fewest, od_Shop_fewest, .func (PySem.W.fnOf "fewest" "Shop.fewest" (defArgs s_Shop_fewest) (defBody s_Shop_fewest) (defScope s_Shop_fewest) .none kV_Shop_fewest dc_Shop_fewest pm_Shop_fewest an_Shop_fewest cd_Shop_fewest ct_Shop_fewest), sl_Shop_fewest⟩) (c_Shop_fewest : PySem.W.codeIn K cd_Shop_fewest "Shop.fewest" = true) (a_Shop_kinds : PySem.W.findIn K (.ref CShop) "kinds" = some (some (.ref f_Shop_kinds))) (fn_Shop_kinds : PySem.W.isFn K (.ref f_Shop_kinds) = true) (kp_Shop_kinds : PySem.W.keepIn K (.ref f_Shop_kinds) = true) (l_Shop_kinds : K.lookup f_Shop_kinds = some ⟨oc_Shop_kinds, od_Shop_kinds, .func (PySem.W.fnOf "kinds" "Shop.kinds" (defArgs s_Shop_kinds) (defBody s_Shop_kinds) (defScope s_Shop_kinds) .none kV_Shop_kinds dc_Shop_kinds pm_Shop_kinds an_Shop_kinds cd_Shop_kinds ct_Shop_kinds), sl_Shop_kinds⟩) (c_Shop_kinds : PySem.W.codeIn K cd_Shop_kinds "Shop.kinds" = true) (n_Shop_stock : PySem.W.findIn K (.ref CShop) "stock" = some none) (ob_NoBench_init : K.lookup CNoBench = some (excClassObj nm_NoBench_init qn_NoBench_init CNoBench N_NoBench_init bs_NoBench_init (.ref CBenchError :: bmVE) true sn_NoBench_init sub_NoBench_init ab_NoBench_init col_NoBench_init dd_NoBench_init k0_NoBench_init k1_NoBench_init k2_NoBench_init k3_NoBench_init k5_NoBench_init "ValueError.__new__")) (o_cb_NoBench_init : PySem.W.excIn K CBenchError bmVE "ValueError.__new__" = true) (it_NoBench_init : PySem.W.findIn K (.ref CNoBench) "__init__" = some (some (.ref f_NoBench_init))) (kp0_NoBench_init : PySem.W.keepIn K (.ref CNoBench) = true) (hm_NoBench_init : PySem.W.mroIn K CNoBench (.type "object") = some true) (hd_NoBench_init : PySem.W.hasDictIn K CNoBench = true) (fn_NoBench_init : PySem.W.typeIn K (.ref f_NoBench_init) = some (.type "function")) (sa_NoBench_init : PySem.W.findIn K (.ref CNoBench) "__setattr__" = some (some (.builtin "object.__setattr__"))) (na_NoBench_init : PySem.W.findIn K (.ref CNoBench) "at" = some none) (rd_NoBench_init : PySem.W.readsIn K CBenchError (.type "type") = true) (fc_NoBench_init : PySem.W.findCls K (.ref CBenchError) (.type "type") "__init__" = some (.val (.builtin "ValueError.__init__"))) (sg_NoBench_init : PySem.W.specialIn K (.ref CBenchError) "__getattribute__" = some (some (.builtin "type.__getattribute__"))) (l_NoBench_init : K.lookup f_NoBench_init = some ⟨oc_NoBench_init, od_NoBench_init, .func (PySem.W.fnOf "__init__" "NoBench.__init__" (defArgs s_NoBench_init) (defBody s_NoBench_init) (defScope s_NoBench_init) .none kV_NoBench_init dc_NoBench_init pm_NoBench_init an_NoBench_init cd_NoBench_init ct_NoBench_init), sl_NoBench_init⟩) (c_NoBench_init : PySem.W.codeIn K cd_NoBench_init "NoBench.__init__" = true) (kp_NoBench_init : PySem.W.keepIn K (.ref f_NoBench_init) = true) (m_NOUGHT : PySem.W.nsIn K mainGlobals "NOUGHT" = some (some (.ref CNOUGHT))) (lk_NOUGHT : K.lookup CNOUGHT = some ⟨.type "tuple", dd_NOUGHT, .seq #[.int 0 tk_NOUGHT_0, .int 1 tk_NOUGHT_1] nn_NOUGHT, sl_NOUGHT⟩) (m_ONE : PySem.W.nsIn K mainGlobals "ONE" = some (some (.ref CONE))) (lk_ONE : K.lookup CONE = some ⟨.type "tuple", dd_ONE, .seq #[.int 1 tk_ONE_0, .int 1 tk_ONE_1] nn_ONE, sl_ONE⟩) : Exc K mg ⟨0, CBenchError, CNoNumber, CNoTable, CNoStock, CNoWish, CNoBench, CPiece, CGap, CGlass, CStop, CShop, CNOUGHT, CONE, tGAP, tGLASS, tSTOP, tMOST_PIECES, tLETTERS, tMOST_LETTERS, tMOST_KINDS, tMOST_GAPS, tNO_GLASS, tTABLE, tIMAGE, tGROWN⟩ := ⟨trivial, PySem.W.mg_of X G m_BenchError, PySem.W.mg_of X G m_NoNumber, PySem.W.mg_of X G m_NoTable, PySem.W.mg_of X G m_NoStock, PySem.W.mg_of X G m_NoWish, PySem.W.mg_of X G m_NoBench, PySem.W.mg_of X G m_Piece, PySem.W.mg_of X G m_Gap, PySem.W.mg_of X G m_Glass, PySem.W.mg_of X G m_Stop, PySem.W.mg_of X G m_Shop, PySem.W.mg_of X G m_GAP, PySem.W.mg_of X G m_GLASS, PySem.W.mg_of X G m_STOP, PySem.W.mg_of X G m_MOST_PIECES, PySem.W.mg_of X G m_LETTERS, PySem.W.mg_of X G m_MOST_LETTERS, PySem.W.mg_of X G m_MOST_KINDS, PySem.W.mg_of X G m_MOST_GAPS, PySem.W.mg_of X G m_NO_GLASS, PySem.W.mg_of X G m_TABLE, PySem.W.mg_of X G m_IMAGE, PySem.W.mg_of X G m_GROWN, ⟨PySem.W.mg_of X G m_NoWish, o_NoWish⟩, ⟨pg_Gap, hd_Gap, po_Gap, sa_Gap⟩, ⟨⟨_, _, fun_mk l_Gap_init c_Gap_init kp_Gap_init, ⟨mk_Gap_init, a_Gap_init, fn_Gap_init, kc_Gap_init⟩⟩, PySem.W.mg_of X G m_Gap⟩, ⟨⟨_, _, fun_mk l_Gap_bent c_Gap_bent kp_Gap_bent, ⟨a_Gap_bent, fn_Gap_bent, kp_Gap_bent⟩⟩, ⟨pg_Gap, hd_Gap, po_Gap, sa_Gap⟩⟩, n_Gap_length, ⟨pg_Glass, hd_Glass, po_Glass, sa_Glass⟩, ⟨⟨_, _, fun_mk l_Glass_init c_Glass_init kp_Glass_init, ⟨mk_Glass_init, a_Glass_init, fn_Glass_init, kc_Glass_init⟩⟩, PySem.W.mg_of X G m_Glass⟩, ⟨⟨_, _, fun_mk l_Glass_bent c_Glass_bent kp_Glass_bent, ⟨a_Glass_bent, fn_Glass_bent, kp_Glass_bent⟩⟩, ⟨pg_Glass, hd_Glass, po_Glass, sa_Glass⟩⟩, n_Glass_strength, ⟨pg_Stop, hd_Stop, po_Stop, sa_Stop⟩, ⟨⟨_, _, fun_mk l_Stop_init c_Stop_init kp_Stop_init, ⟨mk_Stop_init, a_Stop_init, fn_Stop_init, kc_Stop_init⟩⟩, PySem.W.mg_of X G m_Stop⟩, ⟨⟨_, _, fun_mk l_Stop_bent c_Stop_bent kp_Stop_bent, ⟨a_Stop_bent, fn_Stop_bent, kp_Stop_bent⟩⟩, ⟨pg_Stop, hd_Stop, po_Stop, sa_Stop⟩⟩, n_Stop_low, n_Stop_high, ⟨pg_Shop, hd_Shop, po_Shop, sa_Shop⟩, ⟨⟨_, _, fun_mk l_Shop_init c_Shop_init kp_Shop_init, ⟨mk_Shop_init, a_Shop_init, fn_Shop_init, kc_Shop_init⟩⟩, PySem.W.mg_of X G m_Shop⟩, ⟨⟨_, _, fun_mk l_Shop_pieces_for c_Shop_pieces_for kp_Shop_pieces_for, ⟨a_Shop_pieces_for, fn_Shop_pieces_for, kp_Shop_pieces_for⟩⟩, ⟨pg_Shop, hd_Shop, po_Shop, sa_Shop⟩⟩, ⟨⟨_, _, fun_mk l_Shop_tables_for c_Shop_tables_for kp_Shop_tables_for, ⟨a_Shop_tables_for, fn_Shop_tables_for, kp_Shop_tables_for⟩⟩, ⟨pg_Shop, hd_Shop, po_Shop, sa_Shop⟩⟩, ⟨⟨_, _, fun_mk l_Shop_fewest c_Shop_fewest kp_Shop_fewest, ⟨a_Shop_fewest, fn_Shop_fewest, kp_Shop_fewest⟩⟩, ⟨pg_Shop, hd_Shop, po_Shop, sa_Shop⟩⟩, ⟨⟨_, _, fun_mk l_Shop_kinds c_Shop_kinds kp_Shop_kinds, ⟨a_Shop_kinds, fn_Shop_kinds, kp_Shop_kinds⟩⟩, ⟨pg_Shop, hd_Shop, po_Shop, sa_Shop⟩⟩, n_Shop_stock, ⟨⟨_, _, fun_mk l_NoBench_init c_NoBench_init kp_NoBench_init, ⟨⟨_, _, _, _, _, _, _, _, _, _, _, _, _, _, ob_NoBench_init⟩, o_cb_NoBench_init, it_NoBench_init, kp0_NoBench_init, hm_NoBench_init, hd_NoBench_init, fn_NoBench_init, sa_NoBench_init, na_NoBench_init, rd_NoBench_init, fc_NoBench_init, sg_NoBench_init⟩⟩, PySem.W.mg_of X G m_NoBench⟩, PySem.W.mg_of X G m_NOUGHT, fun H => .inr ⟨_, _, _, lk_NOUGHT, rfl, rfl, by show 2 ≤ sizeLine; decide, (.cons ⟨_, rfl⟩ (.cons ⟨_, rfl⟩ .nil))⟩, PySem.W.mg_of X G m_ONE, fun H => .inr ⟨_, _, _, lk_ONE, rfl, rfl, by show 2 ≤ sizeLine; decide, (.cons ⟨_, rfl⟩ (.cons ⟨_, rfl⟩ .nil))⟩⟩
section
variable {P : Program} {w : World} {K : PySem.W.Frag} {mg : Str → Option Value} {base : Heap} {ad : Adr} {c : Bool}
theorem c_is_whole (T : Txt K mg ad) : CalB P w K mg base true 1 "is_whole" ["thing"] (spW K) := by
  refine T.t_is_whole.calN sc_is_whole (fun _ _ _ _ _ _ => by1 fun _ => rfl) (fun vs H Q E h => ?_) (fun f cdv A outer s H vs Q E hr h => ?_)
  · obtain ⟨v, d, rfl, _⟩ := h; rfl
  obtain ⟨v, d, rfl, hv, q⟩ := h
  obtain ⟨b, b', hb, hc, e⟩ := isInt_b d
  refine ⟨_, (pss_one (ps_ret (pe_and (pe_callB call_isiD rfl T.isinstance bt_isinstance (pa_name (pv 0) (pa_name (pe_bltn (v := .ty "int") rfl T.int bt_int rfl) pa_nil))) (pe_one (pe_not (pe_callB call_isiD rfl T.isinstance bt_isinstance (pa_name (pv 0) (pa_name (pe_bltn (v := .ty "bool") rfl T.bool bt_bool rfl) pa_nil)))))))), ?_⟩
  refine ⟨_, rfl, _, _, _, b, rfl, hv, hb, _, rfl, ?_⟩
  cases b with
  | false =>
    have e' : isIntD d = false := e.symm
    rw [e'] at q
    exact iteF q
  | true =>
    refine iteT ?_
    refine ⟨_, rfl, _, _, _, b', rfl, hv, hc, _, rfl, ?_⟩
    have e' : (!b') = isIntD d := e
    show Q (.bl (!b')) H
    rw [e']
    exact q
theorem c_common_divisor (T : Txt K mg ad) : CalB P w K mg base true 1 "common_divisor" ["one", "other"] spDiv := by
  refine T.t_common_divisor.calN sc_common_divisor (fun _ _ _ _ _ _ => by2 fun _ _ => rfl) (fun vs H Q E h => ?_) (fun f cdv A outer s H vs Q E hr h => ?_)
  · obtain ⟨a, b, rfl, _⟩ := h; rfl
  obtain ⟨a, b, rfl, q⟩ := h
  refine ⟨_, (pss_cons (ps_set (i := 2) sc_common_divisor.nd rfl (Or.inl rfl) (pe_callB call_abs rfl T.abs bt_abs (pa_name (pv 0) pa_nil))) (pss_cons (ps_set (i := 3) sc_common_divisor.nd rfl (Or.inl rfl) (pe_callB call_abs rfl T.abs bt_abs (pa_name (pv 1) pa_nil))) (pss_cons (ps_while PassesOwn.never (pt_cmpR op_ne (pv 3) pe_int (nomark _)) (pss_cons (ps_set (i := 4) sc_common_divisor.nd rfl (Or.inl rfl) (pe_op op_mod (pv 2) (pv 3))) (pss_cons (ps_set (i := 2) sc_common_divisor.nd rfl (Or.inl rfl) (pv 3)) (pss_one (ps_set (i := 3) sc_common_divisor.nd rfl (Or.inl rfl) (pv 4)))))) (pss_one (ps_ret (pv 2)))))), ?_⟩
  refine ⟨_, rfl, _, rfl, _, rfl, _, rfl, ?_⟩
  have ea := Fr.absE a
  have eb := Fr.absE b
  refine ⟨fun k σ H' => H = H' ∧ ∃ (m : Nat) (r : Option V), σ = [some (.int a), some (.int b), some (.int m), some (.int k), r] ∧ Nat.gcd m k = Nat.gcd a.natAbs b.natAbs, ⟨b.natAbs, rfl, a.natAbs, none, by rw [← ea, ← eb]; rfl, rfl⟩, ?_⟩
  rintro n _ _ ⟨rfl, m, r, rfl, e⟩
  refine ⟨_, rfl, rfl, _, rfl, ?_⟩
  refine ite2 (fun c => ?_) (fun c => ?_)
  · have hn : n ≠ 0 := by
      intro z
      subst z
      simp at c
    have h1 : (m : Int) % (n : Int) = ((m % n : Nat) : Int) := (Int.natCast_emod m n).symm
    refine ⟨fun σ' H' => H = H' ∧ σ' = [some (.int a), some (.int b), some (.int n), some (.int ((m : Int) % (n : Int))), some (.int ((m : Int) % (n : Int)))], ?_, ?_⟩
    · rintro _ _ ⟨rfl, rfl⟩
      rw [h1]
      exact ⟨m % n, Nat.mod_lt _ (by omega), rfl, n, _, rfl, by rw [Fr.gcd_turn, e]⟩
    · exact ⟨_, rfl, _, rfl, _, _, rfl, rfl, (by show (0 : Int) < (n : Int); omega), _, rfl, _, rfl, rfl, rfl⟩
  · have hn : n = 0 := by
      by_cases z : n = 0
      · exact z
      · exfalso
        apply c
        rw [decI]
        simp
        omega
    subst hn
    refine ⟨_, rfl, ?_⟩
    have e2 : (m : Int) = Fr.gcd a b := by
      unfold Fr.gcd
      rw [← e, Nat.gcd_zero_right]
    rw [e2]
    exact q
theorem c_is_ratio (T : Txt K mg ad) : CalB P w K mg base true 2 "is_ratio" ["thing"] (spRatG K) := by
  have C_is_whole := c_is_whole (P := P) (w := w) (base := base) T
  have C_common_divisor := c_common_divisor (P := P) (w := w) (base := base) T
  refine T.t_is_ratio.calN sc_is_ratio (fun _ _ _ _ _ _ => by1 fun _ => rfl) (fun vs H Q E h => ?_) (fun f cdv A outer s H vs Q E hr h => ?_)
  · obtain ⟨_, _, rfl, _⟩ := h; rfl
  obtain ⟨v, q0, rfl, hv, q⟩ := h
  obtain ⟨a, rfl, ha⟩ := hv.fr
  refine ⟨_, (pss_cons (ps_if (PW.pt (pw_or (pt_not (pt_val (pe_callB call_isiD rfl T.isinstance bt_isinstance (pa_name (pv 0) (pa_name (pe_bltn (v := .ty "tuple") rfl T.tuple bt_tuple rfl) pa_nil))))) (pw_or1 (pt_cmpR op_ne (pe_callB call_len_seq rfl T.len bt_len (pa_name (pv 0) pa_nil)) pe_int (nomark _))))) (pss_one (ps_ret pe_bl)) pss_nil) (pss_cons (ps_set (i := 1) sc_is_ratio.nd rfl (Or.inl rfl) (pe_ix ix_tup (pv 0) pe_int (fun _ _ => rfl))) (pss_cons (ps_set (i := 2) sc_is_ratio.nd rfl (Or.inl rfl) (pe_ix ix_tup (pv 0) pe_int (fun _ _ => rfl))) (pss_cons (ps_if (PW.pt (pw_or (pt_not (pt_val (pe_cB C_is_whole (hr.mono (by decide)) pass01 (pa_name (pv 1) pa_nil)))) (pw_or1 (pt_not (pt_val (pe_cB C_is_whole (hr.mono (by decide)) pass01 (pa_name (pv 2) pa_nil))))))) (pss_one (ps_ret pe_bl)) pss_nil) (pss_one (ps_ret (pe_and (pe_cmpR op_ge (pv 2) pe_int (nomark _)) (pe_one (pe_cmpR op_eq (pe_cB C_common_divisor (hr.mono (by decide)) pass01 (pa_name (pv 1) (pa_name (pv 2) pa_nil))) pe_int (nomark _)))))))))), ?_⟩
  refine ⟨_, rfl, _, _, _, _, rfl, hv, isTup_b _, _, rfl, iteF ?_⟩
  refine ⟨_, rfl, a, _, rfl, .inr ha, rfl, _, rfl, iteF ?_⟩
  refine ⟨_, rfl, a, _, _, _, rfl, rfl, ha, rfl, ?_⟩
  refine ⟨_, rfl, a, _, _, _, rfl, rfl, ha, rfl, ?_⟩
  refine ⟨_, rfl, _, _, rfl, .int _, _, rfl, iteF ?_⟩
  refine ⟨_, rfl, _, _, rfl, .int _, _, rfl, iteF ?_⟩
  refine ⟨_, rfl, _, _, rfl, rfl, _, rfl, iteT' (decide_eq_true (denp q0)) ⟨_, rfl, _, rfl, _, _, rfl, rfl, ?_⟩⟩
  show Q (.bl (decide (V.int (Fr.gcd q0.num (q0.den : Int)) = V.int 1))) H
  rw [decI, decide_eq_true (frO_gcd q0)]
  exact q
theorem c_is_ratio_any (T : Txt K mg ad) : CalB P w K mg base true 2 "is_ratio" ["thing"] (spRat K) := by
  have C_is_whole := c_is_whole (P := P) (w := w) (base := base) T
  have C_common_divisor := c_common_divisor (P := P) (w := w) (base := base) T
  refine T.t_is_ratio.calN sc_is_ratio (fun _ _ _ _ _ _ => by1 fun _ => rfl) (fun vs H Q E h => ?_) (fun f cdv A outer s H vs Q E hr h => ?_)
  · obtain ⟨_, _, rfl, _⟩ := h; rfl
  obtain ⟨v, d, rfl, hv, q⟩ := h
  refine ⟨_, (pss_cons (ps_if (PW.pt (pw_or (pt_not (pt_val (pe_callB call_isiD rfl T.isinstance bt_isinstance (pa_name (pv 0) (pa_name (pe_bltn (v := .ty "tuple") rfl T.tuple bt_tuple rfl) pa_nil))))) (pw_or1 (pt_cmpR op_ne (pe_callB call_len_seq rfl T.len bt_len (pa_name (pv 0) pa_nil)) pe_int (nomark _))))) (pss_one (ps_ret pe_bl)) pss_nil) (pss_cons (ps_set (i := 1) sc_is_ratio.nd rfl (Or.inl rfl) (pe_ix ix_tup (pv 0) pe_int (fun _ _ => rfl))) (pss_cons (ps_set (i := 2) sc_is_ratio.nd rfl (Or.inl rfl) (pe_ix ix_tup (pv 0) pe_int (fun _ _ => rfl))) (pss_cons (ps_if (PW.pt (pw_or (pt_not (pt_val (pe_cB C_is_whole (hr.mono (by decide)) pass01 (pa_name (pv 1) pa_nil)))) (pw_or1 (pt_not (pt_val (pe_cB C_is_whole (hr.mono (by decide)) pass01 (pa_name (pv 2) pa_nil))))))) (pss_one (ps_ret pe_bl)) pss_nil) (pss_one (ps_ret (pe_and (pe_cmpR op_ge (pv 2) pe_int (nomark _)) (pe_one (pe_cmpR op_eq (pe_cB C_common_divisor (hr.mono (by decide)) pass01 (pa_name (pv 1) (pa_name (pv 2) pa_nil))) pe_int (nomark _)))))))))), ?_⟩
  refine ⟨_, rfl, _, _, _, _, rfl, hv, isTup_b d, _, rfl, ?_⟩
  cases ht : isTupD d with
  | false =>
    refine iteT (iteT ?_)
    rw [ratD_no ht] at q
    exact q
  | true =>
    obtain ⟨ds, rfl⟩ := isTup_of ht
    obtain ⟨a, xs, rfl, ha, hds⟩ := hv.tup_of
    refine iteF ?_
    refine ⟨_, rfl, a, _, rfl, .inr ha, rfl, _, rfl, ?_⟩
    by_cases hl : ds.length = 2
    · obtain ⟨d1, d2, rfl⟩ : ∃ d1 d2, ds = [d1, d2] := by
        match ds, hl with
        | [d1, d2], _ => exact ⟨d1, d2, rfl⟩
      obtain ⟨x, y, rfl, hx, hy⟩ := hds.two
      refine iteF ?_
      refine ⟨_, rfl, a, _, _, _, rfl, rfl, ha, rfl, ?_⟩
      refine ⟨_, rfl, a, _, _, _, rfl, rfl, ha, rfl, ?_⟩
      refine ⟨_, rfl, _, _, rfl, hx, _, rfl, ?_⟩
      cases h1 : isIntD d1 with
      | false =>
        refine iteT (iteT ?_)
        rw [ratD_two (.inl h1)] at q
        exact q
      | true =>
        refine iteF ?_
        refine ⟨_, rfl, _, _, rfl, hy, _, rfl, ?_⟩
        cases h2 : isIntD d2 with
        | false =>
          refine iteT ?_
          rw [ratD_two (.inr h2)] at q
          exact q
        | true =>
          obtain ⟨i, rfl⟩ := isInt_of h1
          obtain ⟨j, rfl⟩ := isInt_of h2
          obtain rfl := hx.int_of
          obtain rfl := hy.int_of
          refine iteF ?_
          refine ⟨_, rfl, _, _, rfl, rfl, _, rfl, ?_⟩
          have q' : Q (.bl (decide (1 ≤ j) && decide (Fr.gcd i j = 1))) H := q
          refine ite2 (fun c => ?_) (fun c => ?_)
          · have c' : decide (1 ≤ j) = true := c
            rw [c', Bool.true_and] at q'
            refine ⟨_, rfl, _, rfl, i, j, rfl, rfl, ?_⟩
            show Q (.bl (decide (V.int (Fr.gcd i j) = V.int 1))) H
            rw [decI]
            exact q'
          · have c' : decide (1 ≤ j) = false := Bool.eq_false_iff.mpr c
            rw [c', Bool.false_and] at q'
            exact q'
    · have e : decide (V.int ((xs.length : Nat) : Int) = V.int 2) = false := by
        rw [decI]
        exact decide_eq_false (by have := hds.len; omega)
      show if (!decide (V.int ((xs.length : Nat) : Int) = V.int 2)) = true then _ else _
      rw [e]
      refine iteT ?_
      rw [ratD_len hl] at q
      exact q
theorem c_ratio_of (T : Txt K mg ad) : CalB P w K mg base true 2 "ratio_of" ["top", "bottom"] spOfG := by
  have C_is_whole := c_is_whole (P := P) (w := w) (base := base) T
  have C_common_divisor := c_common_divisor (P := P) (w := w) (base := base) T
  refine T.t_ratio_of.calN sc_ratio_of (fun _ _ _ _ _ _ => by2 fun _ _ => rfl) (fun vs H Q E h => ?_) (fun f cdv A outer s H vs Q E hr h => ?_)
  · obtain ⟨x, y, rfl, _⟩ := h; rfl
  obtain ⟨a, b, rfl, b0, bs, q⟩ := h
  refine ⟨_, (pss_cons (ps_if (PW.pt (pw_or (pt_not (pt_val (pe_cB C_is_whole (hr.mono (by decide)) pass01 (pa_name (pv 0) pa_nil)))) (pw_or (pt_not (pt_val (pe_cB C_is_whole (hr.mono (by decide)) pass01 (pa_name (pv 1) pa_nil)))) (pw_or1 (pt_cmpR op_eq (pv 1) pe_int (nomark _)))))) (pss_one ps_never) pss_nil) (pss_cons (ps_set (i := 2) sc_ratio_of.nd rfl (Or.inl rfl) (pe_cB C_common_divisor (hr.mono (by decide)) pass01 (pa_name (pv 0) (pa_name (pv 1) pa_nil)))) (pss_cons (ps_if (pt_cmpR op_lt (pv 1) pe_int (nomark _)) (pss_one (ps_set (i := 2) sc_ratio_of.nd rfl (Or.inl rfl) (pe_op op_sub pe_int (pv 2)))) pss_nil) (pss_one (ps_ret (pe_tup (pa_bin (pe_op op_fdivW (pv 0) (pv 2)) (pa_bin (pe_op op_fdivW (pv 1) (pv 2)) pa_nil)))))))), ?_⟩
  refine ⟨_, rfl, _, _, rfl, .int a, _, rfl, ?_⟩
  refine iteF ?_
  refine ⟨_, rfl, _, _, rfl, .int b, _, rfl, ?_⟩
  refine iteF ?_
  refine ⟨_, rfl, rfl, _, rfl, ?_⟩
  refine ite2 (fun z => ?_) (fun _ => ?_)
  · exfalso
    rw [decI] at z
    exact b0 (of_decide_eq_true z)
  refine ⟨_, rfl, _, rfl, a, b, rfl, ?_⟩
  have gl := Fr.gcd_le (a := a) b0
  have gn := Fr.gcd_nn a b
  have gs : ∀ g : Int, g.natAbs = (Fr.gcd a b).natAbs → g.natAbs.log2 < 9000 := fun g hg => by
    have h2 : g.natAbs < lim := by omega
    exact lim_log h2
  have hlow : ∀ g : Int, g = Fr.sg a b → CDivW a g ∧ CDivW b g := fun g hg => by
    subst hg
    exact ⟨⟨Fr.sg_ne b0, gs _ Fr.sg_abs⟩, ⟨Fr.sg_ne b0, gs _ Fr.sg_abs⟩⟩
  refine ⟨_, rfl, _, _, rfl, rfl, _, rfl, ?_⟩
  refine ite2 (fun c2 => ?_) (fun c2 => ?_)
  · have c3 : b < 0 := of_decide_eq_true c2
    have eg : (0 : Int) - Fr.gcd a b = Fr.sg a b := by
      unfold Fr.sg
      rw [if_pos c3]
    refine ⟨_, rfl, _, _, rfl, rfl, ?_⟩
    refine ⟨_, rfl, _, rfl, _, _, rfl, rfl, (hlow _ eg).1, _, rfl, _, rfl, _, _, rfl, rfl, (hlow _ eg).2, (by show 2 ≤ sizeLine; decide), fun p hp => ?_⟩
    rw [eg]
    exact q p hp
  · have c3 : ¬ b < 0 := fun z => c2 (decide_eq_true z)
    have eg : Fr.gcd a b = Fr.sg a b := by
      unfold Fr.sg
      rw [if_neg c3]
    refine ⟨_, rfl, _, rfl, _, _, rfl, rfl, (hlow _ eg).1, _, rfl, _, rfl, _, _, rfl, rfl, (hlow _ eg).2, (by show 2 ≤ sizeLine; decide), fun p hp => ?_⟩
    rw [eg]
    exact q p hp
theorem c_sum_of (T : Txt K mg ad) : CalB P w K mg base true 3 "sum_of" ["one", "other"] (PR K (RBin fun p q => p + q)) := by
  have C_ratio_of := c_ratio_of (P := P) (w := w) (base := base) T
  refine T.t_sum_of.calN sc_sum_of (fun _ _ _ _ _ _ => by2 fun _ _ => rfl) (fun vs H Q E h => ?_) (fun f cdv A outer s H vs Q E hr h => ?_)
  · obtain ⟨_, _, dv, ⟨_, _, rfl, _⟩, _⟩ := h; exact dv.len
  obtain ⟨_, _, dv, ⟨p, q, rfl, sp, sq, rfl⟩, k⟩ := h
  obtain ⟨_, _, rfl, hx, hy⟩ := dv.two
  obtain ⟨a, rfl, ha⟩ := hx.fr
  obtain ⟨b, rfl, hb⟩ := hy.fr
  refine ⟨_, (pss_one (ps_ret (pe_cB C_ratio_of (hr.mono (by decide)) pass01 (pa_bin (pe_op op_add (pe_op op_mulW (pe_ix ix_tup (pv 0) pe_int (fun _ _ => rfl)) (pe_ix ix_tup (pv 1) pe_int (fun _ _ => rfl))) (pe_op op_mulW (pe_ix ix_tup (pv 1) pe_int (fun _ _ => rfl)) (pe_ix ix_tup (pv 0) pe_int (fun _ _ => rfl)))) (pa_bin (pe_op op_mulW (pe_ix ix_tup (pv 0) pe_int (fun _ _ => rfl)) (pe_ix ix_tup (pv 1) pe_int (fun _ _ => rfl))) pa_nil))))), ?_⟩
  refine ⟨_, rfl, a, _, _, _, rfl, rfl, ha, rfl, _, rfl, b, _, _, _, rfl, rfl, hb, rfl, _, _, rfl, rfl, mulW sp.n sq.dn, ?_⟩
  refine ⟨_, rfl, b, _, _, _, rfl, rfl, hb, rfl, _, rfl, a, _, _, _, rfl, rfl, ha, rfl, _, _, rfl, rfl, mulW sq.n sp.dn, _, _, rfl, rfl, ?_⟩
  refine ⟨_, rfl, a, _, _, _, rfl, rfl, ha, rfl, _, rfl, b, _, _, _, rfl, rfl, hb, rfl, _, _, rfl, rfl, mulW sp.dn sq.dn, ?_⟩
  refine ⟨_, _, rfl, den_mul0 p q, mul_lim sp.dn sq.dn, fun r hr => k _ _ (same_new hr _) ?_⟩
  have e := dv_low (K := K) (H := H) (t := p.num * (q.den : Int) + q.num * (p.den : Int)) (b := (p.den : Int) * (q.den : Int)) (p := r) (den_mul0 p q)
  rw [Fr.sum_rat] at e
  exact e
theorem c_less_by (T : Txt K mg ad) : CalB P w K mg base true 3 "less_by" ["one", "other"] (PR K (RBin fun p q => p - q)) := by
  have C_ratio_of := c_ratio_of (P := P) (w := w) (base := base) T
  refine T.t_less_by.calN sc_less_by (fun _ _ _ _ _ _ => by2 fun _ _ => rfl) (fun vs H Q E h => ?_) (fun f cdv A outer s H vs Q E hr h => ?_)
  · obtain ⟨_, _, dv, ⟨_, _, rfl, _⟩, _⟩ := h; exact dv.len
  obtain ⟨_, _, dv, ⟨p, q, rfl, sp, sq, rfl⟩, k⟩ := h
  obtain ⟨_, _, rfl, hx, hy⟩ := dv.two
  obtain ⟨a, rfl, ha⟩ := hx.fr
  obtain ⟨b, rfl, hb⟩ := hy.fr
  refine ⟨_, (pss_one (ps_ret (pe_cB C_ratio_of (hr.mono (by decide)) pass01 (pa_bin (pe_op op_sub (pe_op op_mulW (pe_ix ix_tup (pv 0) pe_int (fun _ _ => rfl)) (pe_ix ix_tup (pv 1) pe_int (fun _ _ => rfl))) (pe_op op_mulW (pe_ix ix_tup (pv 1) pe_int (fun _ _ => rfl)) (pe_ix ix_tup (pv 0) pe_int (fun _ _ => rfl)))) (pa_bin (pe_op op_mulW (pe_ix ix_tup (pv 0) pe_int (fun _ _ => rfl)) (pe_ix ix_tup (pv 1) pe_int (fun _ _ => rfl))) pa_nil))))), ?_⟩
  refine ⟨_, rfl, a, _, _, _, rfl, rfl, ha, rfl, _, rfl, b, _, _, _, rfl, rfl, hb, rfl, _, _, rfl, rfl, mulW sp.n sq.dn, ?_⟩
  refine ⟨_, rfl, b, _, _, _, rfl, rfl, hb, rfl, _, rfl, a, _, _, _, rfl, rfl, ha, rfl, _, _, rfl, rfl, mulW sq.n sp.dn, _, _, rfl, rfl, ?_⟩
  refine ⟨_, rfl, a, _, _, _, rfl, rfl, ha, rfl, _, rfl, b, _, _, _, rfl, rfl, hb, rfl, _, _, rfl, rfl, mulW sp.dn sq.dn, ?_⟩
  refine ⟨_, _, rfl, den_mul0 p q, mul_lim sp.dn sq.dn, fun r hr => k _ _ (same_new hr _) ?_⟩
  have e := dv_low (K := K) (H := H) (t := p.num * (q.den : Int) - q.num * (p.den : Int)) (b := (p.den : Int) * (q.den : Int)) (p := r) (den_mul0 p q)
  rw [Fr.less_rat] at e
  exact e
theorem c_product_of (T : Txt K mg ad) : CalB P w K mg base true 3 "product_of" ["one", "other"] (PR K (RBin fun p q => p * q)) := by
  have C_ratio_of := c_ratio_of (P := P) (w := w) (base := base) T
  refine T.t_product_of.calN sc_product_of (fun _ _ _ _ _ _ => by2 fun _ _ => rfl) (fun vs H Q E h => ?_) (fun f cdv A outer s H vs Q E hr h => ?_)
  · obtain ⟨_, _, dv, ⟨_, _, rfl, _⟩, _⟩ := h; exact dv.len
  obtain ⟨_, _, dv, ⟨p, q, rfl, sp, sq, rfl⟩, k⟩ := h
  obtain ⟨_, _, rfl, hx, hy⟩ := dv.two
  obtain ⟨a, rfl, ha⟩ := hx.fr
  obtain ⟨b, rfl, hb⟩ := hy.fr
  refine ⟨_, (pss_one (ps_ret (pe_cB C_ratio_of (hr.mono (by decide)) pass01 (pa_bin (pe_op op_mulW (pe_ix ix_tup (pv 0) pe_int (fun _ _ => rfl)) (pe_ix ix_tup (pv 1) pe_int (fun _ _ => rfl))) (pa_bin (pe_op op_mulW (pe_ix ix_tup (pv 0) pe_int (fun _ _ => rfl)) (pe_ix ix_tup (pv 1) pe_int (fun _ _ => rfl))) pa_nil))))), ?_⟩
  refine ⟨_, rfl, a, _, _, _, rfl, rfl, ha, rfl, _, rfl, b, _, _, _, rfl, rfl, hb, rfl, _, _, rfl, rfl, mulW sp.n sq.n, ?_⟩
  refine ⟨_, rfl, a, _, _, _, rfl, rfl, ha, rfl, _, rfl, b, _, _, _, rfl, rfl, hb, rfl, _, _, rfl, rfl, mulW sp.dn sq.dn, ?_⟩
  refine ⟨_, _, rfl, den_mul0 p q, mul_lim sp.dn sq.dn, fun r hr => k _ _ (same_new hr _) ?_⟩
  have e := dv_low (K := K) (H := H) (t := p.num * q.num) (b := (p.den : Int) * (q.den : Int)) (p := r) (den_mul0 p q)
  rw [Fr.prod_rat] at e
  exact e
theorem c_quotient_of (T : Txt K mg ad) : CalB P w K mg base true 3 "quotient_of" ["one", "other"] (PR K RQuo) := by
  have C_ratio_of := c_ratio_of (P := P) (w := w) (base := base) T
  refine T.t_quotient_of.calN sc_quotient_of (fun _ _ _ _ _ _ => by2 fun _ _ => rfl) (fun vs H Q E h => ?_) (fun f cdv A outer s H vs Q E hr h => ?_)
  · obtain ⟨_, _, dv, ⟨_, _, rfl, _⟩, _⟩ := h; exact dv.len
  obtain ⟨_, _, dv, ⟨p, q, rfl, sp, sq, q0, rfl⟩, k⟩ := h
  obtain ⟨_, _, rfl, hx, hy⟩ := dv.two
  obtain ⟨a, rfl, ha⟩ := hx.fr
  obtain ⟨b, rfl, hb⟩ := hy.fr
  refine ⟨_, (pss_one (ps_ret (pe_cB C_ratio_of (hr.mono (by decide)) pass01 (pa_bin (pe_op op_mulW (pe_ix ix_tup (pv 0) pe_int (fun _ _ => rfl)) (pe_ix ix_tup (pv 1) pe_int (fun _ _ => rfl))) (pa_bin (pe_op op_mulW (pe_ix ix_tup (pv 0) pe_int (fun _ _ => rfl)) (pe_ix ix_tup (pv 1) pe_int (fun _ _ => rfl))) pa_nil))))), ?_⟩
  refine ⟨_, rfl, a, _, _, _, rfl, rfl, ha, rfl, _, rfl, b, _, _, _, rfl, rfl, hb, rfl, _, _, rfl, rfl, mulW sp.n sq.dn, ?_⟩
  refine ⟨_, rfl, a, _, _, _, rfl, rfl, ha, rfl, _, rfl, b, _, _, _, rfl, rfl, hb, rfl, _, _, rfl, rfl, mulW sp.dn sq.n, ?_⟩
  have n0 : q.num ≠ 0 := fun e => q0 (Fr.num_zero q |>.mp e)
  have m0 : (p.den : Int) * q.num ≠ 0 := Int.mul_ne_zero (den0 p) n0
  refine ⟨_, _, rfl, m0, mul_lim sp.dn sq.n, fun r hr => k _ _ (same_new hr _) ?_⟩
  have e := dv_low (K := K) (H := H) (t := p.num * (q.den : Int)) (b := (p.den : Int) * q.num) (p := r) m0
  rw [Fr.quot_rat] at e
  exact e
theorem c_is_less (T : Txt K mg ad) : CalB P w K mg base true 1 "is_less" ["one", "other"] (PR K RLess) := by
  refine T.t_is_less.calN sc_is_less (fun _ _ _ _ _ _ => by2 fun _ _ => rfl) (fun vs H Q E h => ?_) (fun f cdv A outer s H vs Q E hr h => ?_)
  · obtain ⟨_, _, dv, ⟨_, _, rfl, _⟩, _⟩ := h; exact dv.len
  obtain ⟨_, _, dv, ⟨p, q, rfl, sp, sq, rfl⟩, k⟩ := h
  obtain ⟨_, _, rfl, hx, hy⟩ := dv.two
  obtain ⟨a, rfl, ha⟩ := hx.fr
  obtain ⟨b, rfl, hb⟩ := hy.fr
  refine ⟨_, (pss_one (ps_ret (pe_cmpR op_lt (pe_op op_mulW (pe_ix ix_tup (pv 0) pe_int (fun _ _ => rfl)) (pe_ix ix_tup (pv 1) pe_int (fun _ _ => rfl))) (pe_op op_mulW (pe_ix ix_tup (pv 1) pe_int (fun _ _ => rfl)) (pe_ix ix_tup (pv 0) pe_int (fun _ _ => rfl))) (nomark _)))), ?_⟩
  refine ⟨_, rfl, a, _, _, _, rfl, rfl, ha, rfl, _, rfl, b, _, _, _, rfl, rfl, hb, rfl, _, _, rfl, rfl, mulW sp.n sq.dn, ?_⟩
  refine ⟨_, rfl, b, _, _, _, rfl, rfl, hb, rfl, _, rfl, a, _, _, _, rfl, rfl, ha, rfl, _, _, rfl, rfl, mulW sq.n sp.dn, _, _, rfl, rfl, ?_⟩
  have e : decide (p.num * (q.den : Int) < q.num * (p.den : Int)) = decide (p < q) := decide_eq_decide.mpr (Fr.lt_rat p q)
  show Q (.bl (decide (p.num * (q.den : Int) < q.num * (p.den : Int)))) H
  rw [e]
  exact k _ _ (Same.refl _) (.bl _)
end
end K65
namespace K65
open PySem L2 Lib Fr Op
seal PE PT PW PA PS PSs PG PGs PI PO PIfs
section
variable {P : Program} {w : World} {K : PySem.W.Frag} {mg : Str → Option Value} {base : Heap} {ad : Adr} {c : Bool}
theorem k_Gap (T : Txt K mg ad) : MkC P w K mg base 1 "Gap" ad.Gap ["self", "length"] (spInit1 ad.Gap "length") := by
  refine T.ex.i_Gap.mkc sc_Gap_init (fun _ _ _ _ _ _ => by2 fun _ _ => rfl) (fun vs H Q E h => ?_) (fun f cdv A outer s H vs Q E hr h => ?_)
  · obtain ⟨a, dx, x, rfl, _⟩ := h; rfl
  obtain ⟨a, dx, x, rfl, ha, q⟩ := h
  refine ⟨_, (pss_one (ps_fldB (pv 0) (pv 1))), ?_⟩
  exact ⟨_, rfl, _, rfl, a, ad.Gap, dx, [], rfl, ha, T.ex.l_Gap, T.ex.n_Gap_length, by decide, q⟩
theorem k_Glass (T : Txt K mg ad) : MkC P w K mg base 1 "Glass" ad.Glass ["self", "strength"] (spInit1 ad.Glass "strength") := by
  refine T.ex.i_Glass.mkc sc_Glass_init (fun _ _ _ _ _ _ => by2 fun _ _ => rfl) (fun vs H Q E h => ?_) (fun f cdv A outer s H vs Q E hr h => ?_)
  · obtain ⟨a, dx, x, rfl, _⟩ := h; rfl
  obtain ⟨a, dx, x, rfl, ha, q⟩ := h
  refine ⟨_, (pss_one (ps_fldB (pv 0) (pv 1))), ?_⟩
  exact ⟨_, rfl, _, rfl, a, ad.Glass, dx, [], rfl, ha, T.ex.l_Glass, T.ex.n_Glass_strength, by decide, q⟩
theorem k_Stop (T : Txt K mg ad) : MkC P w K mg base 1 "Stop" ad.Stop ["self", "low", "high"] (spInit2 ad.Stop "low" "high") := by
  refine T.ex.i_Stop.mkc sc_Stop_init (fun _ _ _ _ _ _ => by3 fun _ _ _ => rfl) (fun vs H Q E h => ?_) (fun f cdv A outer s H vs Q E hr h => ?_)
  · obtain ⟨a, dx, x, y, rfl, _⟩ := h; rfl
  obtain ⟨a, dx, x, y, rfl, ha, q⟩ := h
  refine ⟨_, (pss_cons (ps_fldB (pv 0) (pv 1)) (pss_one (ps_fldB (pv 0) (pv 2)))), ?_⟩
  refine ⟨_, rfl, _, rfl, a, ad.Stop, dx, [], rfl, ha, T.ex.l_Stop, T.ex.n_Stop_low, by decide, ?_⟩
  refine ⟨_, rfl, _, rfl, a, ad.Stop, dx, _, rfl, upd_same, T.ex.l_Stop, T.ex.n_Stop_high, (by show 1 < 1000; decide), ?_⟩
  rw [upd_upd]
  exact q
theorem mc_Stop_bent (T : Txt K mg ad) : MC P w K mg base 4 ad.Stop "bent" ["self", "ray"] spId := by
  refine T.ex.q_Stop_bent.mc sc_Piece_bent (fun _ _ _ _ _ _ => by2 fun _ _ => rfl) (fun vs H Q E h => ?_) (fun f cdv A outer s H vs Q E hr h => ?_)
  · obtain ⟨x, y, rfl, _⟩ := h; rfl
  obtain ⟨x, y, rfl, q⟩ := h
  exact ⟨_, (pss_one (ps_ret (pv 1))), _, rfl, q⟩
theorem mc_Gap_bent (T : Txt K mg ad) : MC P w K mg base 4 ad.Gap "bent" ["self", "ray"] (spOb K ad.Gap ad.Glass ad.Stop (fun p r => rayD (p.bent r)) isGap) := by
  have C_sum_of := c_sum_of (P := P) (w := w) (base := base) T
  have C_product_of := c_product_of (P := P) (w := w) (base := base) T
  refine T.ex.q_Gap_bent.mc sc_Gap_bent (fun _ _ _ _ _ _ => by2 fun _ _ => rfl) (fun vs H Q E h => ?_) (fun f cdv A outer s H vs Q E hr h => ?_)
  · obtain ⟨_, _, _, _, _, _, rfl, _⟩ := h; rfl
  obtain ⟨o, y, p, r, n, m, rfl, hc, ho, hy, rb, pb, hnm, k⟩ := h
  cases ho with
  | glass _ _ => exact hc.elim
  | stop _ _ _ => exact hc.elim
  | @gap a dx x1 d ha h1 =>
    have pb : Bd m d := pb
    obtain ⟨ra, y1, y2, rfl, hra, hy1, hy2⟩ := hy.t2
    refine ⟨_, (pss_one (ps_ret (pe_tup (pa_call (pe_cB C_sum_of (hr.mono (by decide)) pass01 (pa_sub (pe_ix ix_tup (pv 1) pe_int (fun _ _ => rfl)) (pa_call (pe_cB C_product_of (hr.mono (by decide)) pass01 (pa_cons (pe_fldB (pv 0)) (pa_sub (pe_ix ix_tup (pv 1) pe_int (fun _ _ => rfl)) pa_nil))) pa_nil))) (pa_sub (pe_ix ix_tup (pv 1) pe_int (fun _ _ => rfl)) pa_nil))))), ?_⟩
    refine ⟨_, rfl, ra, _, _, _, rfl, rfl, hra, rfl, ?_⟩
    refine ⟨_, rfl, a, _, _, _, _, rfl, ha, T.ex.l_Gap, T.ex.n_Gap_length, rfl, _, rfl, ra, _, _, _, rfl, rfl, hra, rfl, ?_⟩
    refine ⟨_, _, .cons h1 (.cons hy2 .nil), ⟨_, _, rfl, pb.sm (le_b hnm), rb.u.sm (le_a hnm), rfl⟩, fun v H1 s1 hv => ?_⟩
    refine ⟨_, _, .cons (hy1.keep s1) (.cons hv .nil), ⟨_, _, rfl, rb.y.sm (le_a hnm), (pb.mul rb.u).sm (le_ba hnm), rfl⟩, fun v2 H2 s2 hv2 => ?_⟩
    refine ⟨_, rfl, ra, _, _, _, rfl, rfl, hra.keep (s1.trans s2), rfl, (by show 2 ≤ sizeLine; decide), fun t ht => ?_⟩
    exact k _ _ ((s1.trans s2).trans (same_new ht _)) (DV.upd2 ht hv2 (hy2.keep (s1.trans s2)))
theorem mc_Glass_bent (T : Txt K mg ad) : MC P w K mg base 4 ad.Glass "bent" ["self", "ray"] (spOb K ad.Gap ad.Glass ad.Stop (fun p r => rayD (p.bent r)) isGlass) := by
  have C_less_by := c_less_by (P := P) (w := w) (base := base) T
  have C_product_of := c_product_of (P := P) (w := w) (base := base) T
  refine T.ex.q_Glass_bent.mc sc_Glass_bent (fun _ _ _ _ _ _ => by2 fun _ _ => rfl) (fun vs H Q E h => ?_) (fun f cdv A outer s H vs Q E hr h => ?_)
  · obtain ⟨_, _, _, _, _, _, rfl, _⟩ := h; rfl
  obtain ⟨o, y, p, r, n, m, rfl, hc, ho, hy, rb, pb, hnm, k⟩ := h
  cases ho with
  | gap _ _ => exact hc.elim
  | stop _ _ _ => exact hc.elim
  | @glass a dx x1 d ha h1 =>
    have pb : Bd m d := pb
    obtain ⟨ra, y1, y2, rfl, hra, hy1, hy2⟩ := hy.t2
    refine ⟨_, (pss_one (ps_ret (pe_tup (pa_sub (pe_ix ix_tup (pv 1) pe_int (fun _ _ => rfl)) (pa_call (pe_cB C_less_by (hr.mono (by decide)) pass01 (pa_sub (pe_ix ix_tup (pv 1) pe_int (fun _ _ => rfl)) (pa_call (pe_cB C_product_of (hr.mono (by decide)) pass01 (pa_cons (pe_fldB (pv 0)) (pa_sub (pe_ix ix_tup (pv 1) pe_int (fun _ _ => rfl)) pa_nil))) pa_nil))) pa_nil))))), ?_⟩
    refine ⟨_, rfl, ra, _, _, _, rfl, rfl, hra, rfl, ?_⟩
    refine ⟨_, rfl, ra, _, _, _, rfl, rfl, hra, rfl, ?_⟩
    refine ⟨_, rfl, a, _, _, _, _, rfl, ha, T.ex.l_Glass, T.ex.n_Glass_strength, rfl, _, rfl, ra, _, _, _, rfl, rfl, hra, rfl, ?_⟩
    refine ⟨_, _, .cons h1 (.cons hy1 .nil), ⟨_, _, rfl, pb.sm (le_b hnm), rb.y.sm (le_a hnm), rfl⟩, fun v H1 s1 hv => ?_⟩
    refine ⟨_, _, .cons (hy2.keep s1) (.cons hv .nil), ⟨_, _, rfl, rb.u.sm (le_a hnm), (pb.mul rb.y).sm (le_ba hnm), rfl⟩, fun v2 H2 s2 hv2 => ?_⟩
    refine ⟨(by show 2 ≤ sizeLine; decide), fun t ht => ?_⟩
    exact k _ _ ((s1.trans s2).trans (same_new ht _)) (DV.upd2 ht (hy1.keep (s1.trans s2)) hv2)
theorem ob_bent (T : Txt K mg ad) {H : Hp} {v y : V} {p : Pc} {r : Ray} {n m : Nat} (h : ObAt K ad.Gap ad.Glass ad.Stop H v p) (hy : DV K H y (rayD r)) (rb : RB n r) (pb : p.bd m) (hnm : n + m ≤ 3900) :
    ∃ (a C dx : Addr) (fs : List (Str × V)) (ps : List Str) (sp : Sp), v = .ref a ∧ H a = some (.ins C dx fs) ∧ fs.lookup ("bent" : Str) = none ∧ MC P w K mg base 4 C "bent" ps sp ∧ ∀ Q : VK, (∀ v H', Same H H' → DV K H' v (rayD (p.bent r)) → Q v H') → sp [v, y] H Q E0 := by
  cases id h with
  | gap ha hx => exact ⟨_, _, _, _, _, _, rfl, ha, rfl, mc_Gap_bent T, fun Q k => ⟨_, _, .gap _, r, n, m, rfl, trivial, h, hy, rb, pb, hnm, k⟩⟩
  | glass ha hx => exact ⟨_, _, _, _, _, _, rfl, ha, rfl, mc_Glass_bent T, fun Q k => ⟨_, _, .glass _, r, n, m, rfl, trivial, h, hy, rb, pb, hnm, k⟩⟩
  | stop ha hx hz => exact ⟨_, _, _, _, _, _, rfl, ha, rfl, mc_Stop_bent T, fun Q k => ⟨_, _, rfl, k _ _ (Same.refl _) hy⟩⟩
theorem c_piece_of (T : Txt K mg ad) : CalB P w K mg base true 3 "piece_of" ["told"] (spPc K ad.Gap ad.Glass ad.Stop) := by
  have M_Gap := k_Gap (P := P) (w := w) (base := base) T
  have M_Glass := k_Glass (P := P) (w := w) (base := base) T
  have M_Stop := k_Stop (P := P) (w := w) (base := base) T
  refine T.t_piece_of.calN sc_piece_of (fun _ _ _ _ _ _ => by1 fun _ => rfl) (fun vs H Q E h => ?_) (fun f cdv A outer s H vs Q E hr h => ?_)
  · obtain ⟨v, p, rfl, _⟩ := h; rfl
  obtain ⟨v, p, rfl, hv, q⟩ := h
  refine ⟨_, (pss_cons (ps_if (pt_cmpR op_eq (pe_ix ix_tup (pv 0) pe_int (fun _ _ => rfl)) (pe_glob (v := .str "gap") rfl T.ex.m_GAP ⟨_, rfl⟩) (nomark _)) (pss_one (ps_ret (pe_mkB M_Gap (hr.mono (by decide)) (pa_sub (pe_ix ix_tup (pv 0) pe_int (fun _ _ => rfl)) pa_nil)))) pss_nil) (pss_cons (ps_if (pt_cmpR op_eq (pe_ix ix_tup (pv 0) pe_int (fun _ _ => rfl)) (pe_glob (v := .str "glass") rfl T.ex.m_GLASS ⟨_, rfl⟩) (nomark _)) (pss_one (ps_ret (pe_mkB M_Glass (hr.mono (by decide)) (pa_sub (pe_ix ix_tup (pv 0) pe_int (fun _ _ => rfl)) pa_nil)))) pss_nil) (pss_one (ps_ret (pe_mkB M_Stop (hr.mono (by decide)) (pa_sub (pe_ix ix_tup (pv 0) pe_int (fun _ _ => rfl)) (pa_sub (pe_ix ix_tup (pv 0) pe_int (fun _ _ => rfl)) pa_nil))))))), ?_⟩
  cases p with
  | gap d =>
    obtain ⟨a, x, y, rfl, ha, hx, hy⟩ := DV.t2 hv
    obtain rfl := hx.str_of
    refine ⟨_, rfl, a, _, _, _, rfl, rfl, ha, rfl, rfl, _, rfl, iteT' (by decide) ?_⟩
    refine ⟨_, rfl, a, _, _, _, rfl, rfl, ha, rfl, fun o dx ho hdx hne => ⟨o, dx, y, rfl, upd_same, rfl, ?_⟩⟩
    have s1 : Same H (upd H dx (.own o)) := same_new hdx _
    have ho' : upd H dx (.own o) o = none := by rw [upd_ne (Ne.symm hne)]; exact ho
    have s2 := s1.trans (same_new ho' (.ins ad.Gap dx [("length", y)]))
    rw [upd_upd]
    exact q _ _ s2 (.gap upd_same (hy.keep s2))
  | glass d =>
    obtain ⟨a, x, y, rfl, ha, hx, hy⟩ := DV.t2 hv
    obtain rfl := hx.str_of
    refine ⟨_, rfl, a, _, _, _, rfl, rfl, ha, rfl, rfl, _, rfl, iteF' (by decide) ?_⟩
    refine ⟨_, rfl, a, _, _, _, rfl, rfl, ha, rfl, rfl, _, rfl, iteT' (by decide) ?_⟩
    refine ⟨_, rfl, a, _, _, _, rfl, rfl, ha, rfl, fun o dx ho hdx hne => ⟨o, dx, y, rfl, upd_same, rfl, ?_⟩⟩
    have s1 : Same H (upd H dx (.own o)) := same_new hdx _
    have ho' : upd H dx (.own o) o = none := by rw [upd_ne (Ne.symm hne)]; exact ho
    have s2 := s1.trans (same_new ho' (.ins ad.Glass dx [("strength", y)]))
    rw [upd_upd]
    exact q _ _ s2 (.glass upd_same (hy.keep s2))
  | stop lo hi =>
    obtain ⟨a, x, y, z, rfl, ha, hx, hy, hz⟩ := DV.t3 hv
    obtain rfl := hx.str_of
    refine ⟨_, rfl, a, _, _, _, rfl, rfl, ha, rfl, rfl, _, rfl, iteF' (by decide) ?_⟩
    refine ⟨_, rfl, a, _, _, _, rfl, rfl, ha, rfl, rfl, _, rfl, iteF' (by decide) ?_⟩
    refine ⟨_, rfl, a, _, _, _, rfl, rfl, ha, rfl, _, rfl, a, _, _, _, rfl, rfl, ha, rfl, fun o dx ho hdx hne => ⟨o, dx, y, z, rfl, upd_same, rfl, ?_⟩⟩
    have s1 : Same H (upd H dx (.own o)) := same_new hdx _
    have ho' : upd H dx (.own o) o = none := by rw [upd_ne (Ne.symm hne)]; exact ho
    have s2 := s1.trans (same_new ho' (.ins ad.Stop dx [("low", y), ("high", z)]))
    rw [upd_upd]
    exact q _ _ s2 (.stop upd_same (hy.keep s2) (hz.keep s2))
theorem c_is_piece (T : Txt K mg ad) : CalB P w K mg base true 3 "is_piece" ["thing"] (spPieceG K) := by
  have C_is_ratio := c_is_ratio (P := P) (w := w) (base := base) T
  have C_is_less := c_is_less (P := P) (w := w) (base := base) T
  refine T.t_is_piece.calN sc_is_piece (fun _ _ _ _ _ _ => by1 fun _ => rfl) (fun vs H Q E h => ?_) (fun f cdv A outer s H vs Q E hr h => ?_)
  · obtain ⟨_, _, _, rfl, _⟩ := h; rfl
  obtain ⟨v, pc, m, rfl, hv, ok, pb, hm, q⟩ := h
  obtain ⟨z, es, ee, sh⟩ := pc_shape ok pb
  rw [ee] at hv
  obtain ⟨a, xs, rfl, ha, hds⟩ := hv.tup_of
  obtain ⟨x0, xr, rfl, h0, hr'⟩ := hds.cons_of
  obtain rfl := h0.str_of
  have hl := hr'.len
  rw [List.length_map] at hl
  have hl2 := sh.len
  obtain ⟨tR, hR, kR⟩ : ∃ t, PSs (cxB true P w K mg base ["thing"] "is_piece" (defScope s_is_piece) f cdv A outer s H E).nox ((defBody s_is_piece).drop 2) t ∧ ∀ (D : Ends) (H2 : Hp), Same H H2 → (∀ H', Same H H' → D.rt (.bl true) H') → t D [some (.ref a)] H2 := by
    refine ⟨_, (pss_cons (ps_if (pt_cmpR op_eq (pe_ix ix_tup (pv 0) pe_int (fun _ _ => rfl)) (pe_glob (v := .str "stop") rfl T.ex.m_STOP ⟨_, rfl⟩) (nomark _)) (pss_one (ps_ret (pe_and (pe_cmpR op_eq (pe_callB call_len_seq rfl T.len bt_len (pa_name (pv 0) pa_nil)) pe_int (nomark _)) (pe_one (pe_not (pe_cB C_is_less (hr.mono (by decide)) pass01 (pa_sub (pe_ix ix_tup (pv 0) pe_int (fun _ _ => rfl)) (pa_sub (pe_ix ix_tup (pv 0) pe_int (fun _ _ => rfl)) pa_nil)))))))) pss_nil) (pss_one (ps_ret (pe_and (pe_cmpR op_in_seq (pe_ix ix_tup (pv 0) pe_int (fun _ _ => rfl)) (pe_tup (pa_name (pe_glob (v := .str "gap") rfl T.ex.m_GAP ⟨_, rfl⟩) (pa_name (pe_glob (v := .str "glass") rfl T.ex.m_GLASS ⟨_, rfl⟩) pa_nil))) (by rfl)) (pe_one (pe_cmpR op_eq (pe_callB call_len_seq rfl T.len bt_len (pa_name (pv 0) pa_nil)) pe_int (nomark _))))))), ?_⟩
    intro D H2 t2 q
    refine ⟨_, rfl, a, _, _, _, rfl, rfl, ha.keep t2, atI0, rfl, _, rfl, ?_⟩
    rw [decS]
    cases sh with
    | stop nlt blo bhi =>
      obtain ⟨x1, x2, rfl, h1, h2⟩ := hr'.two
      refine iteT' (by decide) ?_
      refine ⟨_, rfl, a, _, rfl, .inr (ha.keep t2), rfl, _, rfl, iteT ?_⟩
      refine ⟨_, rfl, a, _, _, _, rfl, rfl, ha.keep t2, rfl, _, rfl, a, _, _, _, rfl, rfl, ha.keep t2, rfl, ?_⟩
      refine ⟨_, _, .cons (h2.keep t2) (.cons (h1.keep t2) .nil), ⟨_, _, rfl, bhi.sm hm, blo.sm hm, rfl⟩, fun v H3 s3 hv => ?_⟩
      obtain rfl := hv.bl_of
      refine ⟨_, rfl, ?_⟩
      rw [decide_eq_false nlt]
      exact q _ (t2.trans s3)
    | one e1 e2 =>
      refine iteF' e1 ?_
      refine ⟨_, rfl, a, _, _, _, rfl, rfl, ha.keep t2, atI0, (by show 2 ≤ sizeLine; decide), fun p3 hp3 => ?_⟩
      have t3 := t2.trans (same_new hp3 (.tup [.str "gap", .str "glass"]))
      refine ⟨p3, _, rfl, .inr (SqT.of upd_same), rfl, rfl, _, rfl, iteT' ((in_words z).trans e2) ?_⟩
      refine ⟨_, rfl, a, _, rfl, .inr (ha.keep t3), rfl, ?_⟩
      have el2 : xr.length = 1 := hl
      show D.rt (.bl (decide (V.int ((xr.length + 1 : Nat) : Int) = V.int 2))) _
      rw [el2]
      exact q _ t3
  refine ⟨_, (pss_cons (ps_if (PW.pt (pw_or (pt_not (pt_val (pe_callB call_isiD rfl T.isinstance bt_isinstance (pa_name (pv 0) (pa_name (pe_bltn (v := .ty "tuple") rfl T.tuple bt_tuple rfl) pa_nil))))) (pw_or (pt_cmpR op_lt (pe_callB call_len_seq rfl T.len bt_len (pa_name (pv 0) pa_nil)) pe_int (nomark _)) (pw_or1 (pt_not (pt_val (pe_callB call_isiD rfl T.isinstance bt_isinstance (pa_sub (pe_ix ix_tup (pv 0) pe_int (fun _ _ => rfl)) (pa_name (pe_bltn (v := .ty "str") rfl T.str bt_str rfl) pa_nil))))))))) (pss_one (ps_ret pe_bl)) pss_nil) (pss_cons (ps_if (pt_not (pt_val (pe_callB (call_all rfl) rfl T.all bt_all (pa_cons (pe_comp ["part"] [none] rfl (pi_tup (pe_slice sl_tup (pv 0) (po_some pe_int) po_none)) (fun _ _ _ _ _ => (pg_name (i := 0) (show List.Nodup [("part" : Str)] by decide) rfl (by first | exact Or.inl rfl | exact Or.inr rfl))) (fun _ _ _ _ _ => pifs_nil) (fun _ _ _ _ _ => (pe_cB C_is_ratio (hr.mono (by decide)) pass01 (pa_name (pv 0) pa_nil))) (cap_nil (by decide) (by decide)) (by decide) rfl (by decide) rfl (nocap rfl)) pa_nil)))) (pss_one (ps_ret pe_bl)) pss_nil) hR)), ?_⟩
  refine ⟨_, rfl, _, _, _, _, rfl, hv, isTup_b _, _, rfl, iteF ?_⟩
  refine ⟨_, rfl, a, _, rfl, .inr ha, _, _, rfl, rfl, _, rfl, iteF' (decide_eq_false (by simp only [List.length_cons]; omega)) ?_⟩
  refine ⟨_, rfl, a, _, _, _, rfl, rfl, ha, atI0, _, _, _, _, rfl, h0, isStr_b _, _, rfl, iteF ?_⟩
  refine ⟨_, rfl, _, rfl, a, _, rfl, ha, (fun e => by rw [sIx1] at e; simp only [List.length_cons] at e; omega), fun p hp => ⟨p, rfl, ⟨_, SqT.of upd_same⟩, ?_⟩⟩
  rw [cut1]
  have u1 := same_new hp (.tup ((V.str z :: xr).drop 1))
  have hparts := hr'.keep u1
  have hp' : upd H p (.tup ((V.str z :: xr).drop 1)) p = some (.tup xr) := upd_same
  generalize upd H p (.tup ((V.str z :: xr).drop 1)) = H1 at u1 hparts hp' ⊢
  refine comp_tup0 (K := K) (a := p) (xs := xr) (fun i σ ys H' => ∃ c0, σ = [c0] ∧ ys = List.replicate i (V.bl true) ∧ Same H1 H') ⟨_, rfl, rfl, Same.refl _⟩ ?_ ?_ ?_
  · rintro i σ ys H' hi ⟨c0, rfl, rfl, s'⟩
    refine ⟨?_, SqT.of (s' _ _ hp')⟩
    have z2 := small1000 (n := 1000) (by decide)
    rw [List.length_replicate]
    omega
  · rintro i x σ ys H' hi ⟨c0, rfl, rfl, s'⟩
    obtain ⟨dx, hdx, hx⟩ := hparts.get hi
    obtain ⟨q0, rfl⟩ := get_fr hdx
    exact ⟨_, rfl, _, q0, rfl, hx.keep s', nx (lt_of_get hi) ⟨_, rfl, List.replicate_succ'.symm, s'⟩⟩
  · rintro σ ys H' p2 ⟨c0, rfl, rfl, s'⟩ hp2
    have u2 := same_new hp2 (.lst (List.replicate xr.length (V.bl true)))
    refine ⟨p2, List.replicate xr.length true, rfl, SqL.of (by rw [rep_map]; exact upd_same), _, rfl, ?_⟩
    rw [all_rep]
    exact iteF (kR _ _ (u1.trans (s'.trans u2)) q)
theorem c_look_at (T : Txt K mg ad) : CalB P w K mg base true 4 "look_at" ["bench"] (spLook K) := by
  have C_is_piece := c_is_piece (P := P) (w := w) (base := base) T
  refine T.t_look_at.calN sc_look_at (fun _ _ _ _ _ _ => by1 fun _ => rfl) (fun vs H Q E h => ?_) (fun f cdv A outer s H vs Q E hr h => ?_)
  · obtain ⟨_, _, _, rfl, _⟩ := h; rfl
  obtain ⟨v, ps, m, rfl, hv, g, hm, q⟩ := h
  obtain ⟨a, xs, rfl, ha, hxs⟩ := DV.lst_of hv
  have hl : xs.length = ps.length := by have := hxs.len; rw [List.length_map] at this; exact this
  have gl := g.len
  refine ⟨_, (pss_cons (ps_if (PW.pt (pw_or (pt_not (pt_val (pe_callB call_isiD rfl T.isinstance bt_isinstance (pa_name (pv 0) (pa_name (pe_bltn (v := .ty "list") rfl T.list bt_list rfl) pa_nil))))) (pw_or1 (pt_cmpR op_gt (pe_callB call_len_seq rfl T.len bt_len (pa_name (pv 0) pa_nil)) (pe_glob (v := .int 60) rfl T.ex.m_MOST_PIECES ⟨_, rfl⟩) (nomark _))))) (pss_one ps_never) pss_nil) (pss_one (ps_for PassesOwn.never rfl (pi_enum rfl T.enumerate (pa_name (pv 0) pa_nil)) (pg_tup (n := 2) rfl (pgs_cons (pg_name (i := 1) sc_look_at.nd rfl (by first | exact Or.inl rfl | exact Or.inr rfl)) (pgs_cons (pg_name (i := 2) sc_look_at.nd rfl (by first | exact Or.inl rfl | exact Or.inr rfl)) pgs_nil))) (pss_one (ps_if (pt_not (pt_val (pe_cB C_is_piece (hr.mono (by decide)) pass01 (pa_name (pv 2) pa_nil)))) (pss_one ps_never) pss_nil))))), ?_⟩
  refine ⟨_, rfl, _, _, _, _, rfl, hv, isLst_b _, _, rfl, ?_⟩
  refine iteF ?_
  refine ⟨_, rfl, a, _, rfl, .inl ha, _, _, rfl, rfl, _, rfl, iteF' (decide_eq_false (by omega)) ?_⟩
  refine ⟨_, rfl, a, rfl, ⟨_, ha⟩, ?_⟩
  refine for_enum (K := K) (a := a) (xs := xs) (fun i σ H' => ∃ c1 c2, σ = [some (.ref a), c1, c2] ∧ Same H H') ⟨_, _, rfl, Same.refl _⟩ ?_ ?_ ?_
  · rintro i σ H' hi ⟨c1, c2, rfl, s1⟩
    exact ha.keep s1
  · rintro i x σ H' p hi ⟨c1, c2, rfl, s1⟩ hp
    obtain ⟨d, hd, hx⟩ := hxs.get hi
    obtain ⟨pc, hpc, rfl⟩ := get_map_pc hd
    have hmem := List.mem_of_getElem? hpc
    have s2 := s1.trans (same_new hp (.tup [.int i, x]))
    refine ⟨p, _, rfl, SqT.of upd_same, rfl, _, _, rfl, _, _, rfl, rfl, ?_⟩
    exact ⟨_, rfl, _, _, _, rfl, hx.keep s2, g.ok _ hmem, g.bd _ hmem, hm, fun H3 s3 => ⟨_, rfl, iteF ⟨_, _, rfl, s2.trans s3⟩⟩⟩
  · rintro σ H' ⟨c1, c2, rfl, s1⟩
    exact q _ s1
end
end K65
namespace K65
open PySem L2 Lib Fr Op
seal PE PT PW PA PS PSs PG PGs PI PO PIfs
section
variable {P : Program} {w : World} {K : PySem.W.Frag} {mg : Str → Option Value} {base : Heap} {ad : Adr} {c : Bool}
theorem dN (T : Txt K mg ad) (H : Hp) : DV K H (.ref ad.NOUGHT) (frD 0) := .tup (T.ex.s_NOUGHT H) (.cons (.int 0) (.cons (.int 1) .nil))
theorem dO (T : Txt K mg ad) (H : Hp) : DV K H (.ref ad.ONE) (frD 1) := .tup (T.ex.s_ONE H) (.cons (.int 1) (.cons (.int 1) .nil))
theorem c_is_table (T : Txt K mg ad) : CalB P w K mg base true 4 "is_table" ["thing"] (PR K RIsTab) := by
  have C_is_ratio := c_is_ratio (P := P) (w := w) (base := base) T
  have C_less_by := c_less_by (P := P) (w := w) (base := base) T
  have C_product_of := c_product_of (P := P) (w := w) (base := base) T
  refine T.t_is_table.calN sc_is_table (fun _ _ _ _ _ _ => by1 fun _ => rfl) (fun vs H Q E h => ?_) (fun f cdv A outer s H vs Q E hr h => ?_)
  · obtain ⟨_, _, dv, ⟨_, _, rfl, _⟩, _⟩ := h; exact dv.len
  obtain ⟨_, _, dv, ⟨t, n, rfl, tb, hn, rfl⟩, k⟩ := h
  obtain ⟨_, rfl, hx⟩ := dv.one
  obtain ⟨a, x1, x2, x3, x4, rfl, ha, h1, h2, h3, h4⟩ := DV.t4 hx
  have hall : DVs K H [x1, x2, x3, x4] [frD t.a, frD t.b, frD t.c, frD t.d] := .cons h1 (.cons h2 (.cons h3 (.cons h4 .nil)))
  refine ⟨_, (pss_cons (ps_if (PW.pt (pw_or (pt_not (pt_val (pe_callB call_isiD rfl T.isinstance bt_isinstance (pa_name (pv 0) (pa_name (pe_bltn (v := .ty "tuple") rfl T.tuple bt_tuple rfl) pa_nil))))) (pw_or (pt_cmpR op_ne (pe_callB call_len_seq rfl T.len bt_len (pa_name (pv 0) pa_nil)) pe_int (nomark _)) (pw_or1 (pt_not (pt_val (pe_callB (call_all rfl) rfl T.all bt_all (pa_cons (pe_comp ["part"] [none] rfl (pi_tup (pv 0)) (fun _ _ _ _ _ => (pg_name (i := 0) (show List.Nodup [("part" : Str)] by decide) rfl (by first | exact Or.inl rfl | exact Or.inr rfl))) (fun _ _ _ _ _ => pifs_nil) (fun _ _ _ _ _ => (pe_cB C_is_ratio (hr.mono (by decide)) pass01 (pa_name (pv 0) pa_nil))) (cap_nil (by decide) (by decide)) (by decide) rfl (by decide) rfl (nocap rfl)) pa_nil)))))))) (pss_one (ps_ret pe_bl)) pss_nil) (pss_one (ps_ret (pe_cmpR (op_eqD hr.units) (pe_cB C_less_by (hr.mono (by decide)) pass01 (pa_call (pe_cB C_product_of (hr.mono (by decide)) pass01 (pa_sub (pe_ix ix_tup (pv 0) pe_int (fun _ _ => rfl)) (pa_sub (pe_ix ix_tup (pv 0) pe_int (fun _ _ => rfl)) pa_nil))) (pa_call (pe_cB C_product_of (hr.mono (by decide)) pass01 (pa_sub (pe_ix ix_tup (pv 0) pe_int (fun _ _ => rfl)) (pa_sub (pe_ix ix_tup (pv 0) pe_int (fun _ _ => rfl)) pa_nil))) pa_nil))) (pe_glob (v := .ref ad.ONE) rfl T.ex.m_ONE rfl) (nomark _))))), ?_⟩
  refine ⟨_, rfl, _, _, _, _, rfl, hx, isTup_b _, _, rfl, iteF ?_⟩
  refine ⟨_, rfl, a, _, rfl, .inr ha, rfl, _, rfl, iteF ?_⟩
  refine ⟨_, rfl, a, rfl, ⟨_, ha⟩, ?_⟩
  refine comp_tup0 (K := K) (a := a) (xs := [x1, x2, x3, x4]) (fun i σ ys H' => ∃ c0, σ = [c0] ∧ ys = List.replicate i (.bl true) ∧ H' = H) ⟨_, rfl, rfl, rfl⟩ ?_ ?_ ?_
  · rintro i σ ys H' hi ⟨c0, rfl, rfl, rfl⟩
    refine ⟨?_, ha⟩
    rw [List.length_replicate]
    exact Nat.le_of_lt (small1000 (by simp only [List.length_cons, List.length_nil] at hi; omega))
  · rintro i x σ ys H' hi ⟨c0, rfl, rfl, rfl⟩
    obtain ⟨d, hd, hdx⟩ := hall.get hi
    obtain ⟨q0, rfl⟩ := get_fr (es := [t.a, t.b, t.c, t.d]) hd
    exact ⟨_, rfl, _, q0, rfl, hdx, nx (lt_of_get hi) ⟨_, rfl, List.replicate_succ'.symm, rfl⟩⟩
  · rintro σ ys H' p ⟨c0, rfl, rfl, rfl⟩ hp
    have u := same_new hp (.lst (List.replicate [x1, x2, x3, x4].length (.bl true)))
    refine ⟨p, [true, true, true, true], rfl, SqL.of upd_same, _, rfl, iteF ?_⟩
    refine ⟨_, rfl, a, _, _, _, rfl, rfl, ha.keep u, rfl, _, rfl, a, _, _, _, rfl, rfl, ha.keep u, rfl, ?_⟩
    refine ⟨_, _, .cons (h1.keep u) (.cons (h4.keep u) .nil), ⟨_, _, rfl, tb.a.sm (by omega), tb.d.sm (by omega), rfl⟩, fun v1 H1 s1 hv1 => ?_⟩
    have us := u.trans s1
    refine ⟨_, rfl, a, _, _, _, rfl, rfl, ha.keep us, rfl, _, rfl, a, _, _, _, rfl, rfl, ha.keep us, rfl, ?_⟩
    refine ⟨_, _, .cons (h2.keep us) (.cons (h3.keep us) .nil), ⟨_, _, rfl, tb.b.sm (by omega), tb.c.sm (by omega), rfl⟩, fun v2 H2 s2 hv2 => ?_⟩
    refine ⟨_, _, .cons (hv1.keep s2) (.cons hv2 .nil), ⟨_, _, rfl, (tb.a.mul tb.d).sm (by omega), (tb.b.mul tb.c).sm (by omega), rfl⟩, fun v3 H3 s3 hv3 => ?_⟩
    exact eq_frG hv3 (dO T H3) (k _ _ (us.trans (s2.trans s3)) (.bl _))
theorem c_look_at_table (T : Txt K mg ad) : CalB P w K mg base true 5 "look_at_table" ["table"] (PR K RLookT) := by
  have C_is_table := c_is_table (P := P) (w := w) (base := base) T
  refine T.t_look_at_table.calN sc_look_at_table (fun _ _ _ _ _ _ => by1 fun _ => rfl) (fun vs H Q E h => ?_) (fun f cdv A outer s H vs Q E hr h => ?_)
  · obtain ⟨_, _, dv, ⟨_, _, rfl, _⟩, _⟩ := h; exact dv.len
  obtain ⟨_, _, dv, ⟨t, n, rfl, tb, hn, hdet, rfl⟩, k⟩ := h
  obtain ⟨_, rfl, hx⟩ := dv.one
  refine ⟨_, (pss_one (ps_if (pt_not (pt_val (pe_cB C_is_table (hr.mono (by decide)) pass01 (pa_name (pv 0) pa_nil)))) (pss_one ps_never) pss_nil)), ?_⟩
  refine ⟨_, rfl, _, _, .cons hx .nil, ⟨t, n, rfl, tb, hn, rfl⟩, fun v H1 s1 hv => ?_⟩
  rw [decide_eq_true hdet] at hv
  obtain rfl := hv.bl_of
  exact ⟨_, rfl, iteF (k _ _ s1 .non)⟩
theorem c_table_of_rays (T : Txt K mg ad) : CalB P w K mg base true 1 "table_of_rays" ["high", "slanted"] (PR K RRays) := by
  refine T.t_table_of_rays.calN sc_table_of_rays (fun _ _ _ _ _ _ => by2 fun _ _ => rfl) (fun vs H Q E h => ?_) (fun f cdv A outer s H vs Q E hr h => ?_)
  · obtain ⟨_, _, dv, ⟨_, _, rfl, _⟩, _⟩ := h; exact dv.len
  obtain ⟨_, _, dv, ⟨r, t, rfl, rfl⟩, k⟩ := h
  obtain ⟨_, _, rfl, h1, h2⟩ := dv.two
  obtain ⟨a, x1, x2, rfl, ha, hx1, hx2⟩ := DV.t2 h1
  obtain ⟨b, y1, y2, rfl, hb, hy1, hy2⟩ := DV.t2 h2
  refine ⟨_, (pss_one (ps_ret (pe_tup (pa_sub (pe_ix ix_tup (pv 0) pe_int (fun _ _ => rfl)) (pa_sub (pe_ix ix_tup (pv 1) pe_int (fun _ _ => rfl)) (pa_sub (pe_ix ix_tup (pv 0) pe_int (fun _ _ => rfl)) (pa_sub (pe_ix ix_tup (pv 1) pe_int (fun _ _ => rfl)) pa_nil))))))), ?_⟩
  refine ⟨_, rfl, a, _, _, _, rfl, rfl, ha, rfl, _, rfl, b, _, _, _, rfl, rfl, hb, rfl, _, rfl, a, _, _, _, rfl, rfl, ha, rfl, _, rfl, b, _, _, _, rfl, rfl, hb, rfl, (by show 4 ≤ sizeLine; decide), fun p hp => ?_⟩
  exact k _ _ (same_new hp _) (DV.upd4 hp hx1 hy1 hx2 hy2)
theorem c_table_of (T : Txt K mg ad) : CalB P w K mg base true 5 "table_of" ["bench"] (PR K RTabOf) := by
  have C_look_at := c_look_at (P := P) (w := w) (base := base) T
  have C_piece_of := c_piece_of (P := P) (w := w) (base := base) T
  have C_table_of_rays := c_table_of_rays (P := P) (w := w) (base := base) T
  refine T.t_table_of.calN sc_table_of (fun _ _ _ _ _ _ => by1 fun _ => rfl) (fun vs H Q E h => ?_) (fun f cdv A outer s H vs Q E hr h => ?_)
  · obtain ⟨_, _, dv, ⟨_, _, rfl, _⟩, _⟩ := h; exact dv.len
  obtain ⟨_, _, dv, ⟨ps, m, rfl, g, hnm, rfl⟩, k⟩ := h
  obtain ⟨_, rfl, hb⟩ := dv.one
  obtain ⟨a, xs, rfl, ha, hxs⟩ := DV.lst_of hb
  have hl : xs.length = ps.length := by have := hxs.len; rw [List.length_map] at this; exact this
  have gl := g.len
  have r1 : RB 2 e1 := ⟨1, 0, 1, by decide, by decide, by decide, by decide, by decide +kernel, by decide +kernel⟩
  have r2 : RB 2 e2 := ⟨0, 1, 1, by decide, by decide, by decide, by decide, by decide +kernel, by decide +kernel⟩
  refine ⟨_, (pss_cons (ps_expr (pe_cB C_look_at (hr.mono (by decide)) pass01 (pa_name (pv 0) pa_nil))) (pss_cons (ps_set (i := 1) sc_table_of.nd rfl (Or.inl rfl) (pe_tup (pa_name (pe_glob (v := .ref ad.ONE) rfl T.ex.m_ONE rfl) (pa_name (pe_glob (v := .ref ad.NOUGHT) rfl T.ex.m_NOUGHT rfl) pa_nil)))) (pss_cons (ps_set (i := 2) sc_table_of.nd rfl (Or.inl rfl) (pe_tup (pa_name (pe_glob (v := .ref ad.NOUGHT) rfl T.ex.m_NOUGHT rfl) (pa_name (pe_glob (v := .ref ad.ONE) rfl T.ex.m_ONE rfl) pa_nil)))) (pss_cons (ps_for PassesOwn.never rfl (pi_list (pv 0)) (pg_name (i := 3) sc_table_of.nd rfl (by first | exact Or.inl rfl | exact Or.inr rfl)) (pss_cons (ps_set (i := 4) sc_table_of.nd rfl (Or.inl rfl) (pe_cB C_piece_of (hr.mono (by decide)) pass01 (pa_name (pv 3) pa_nil))) (pss_cons (ps_set (i := 1) sc_table_of.nd rfl (Or.inl rfl) (pe_mB (k := 4) (pv 4) (hr.mono (by decide)) (pa_name (pv 1) pa_nil))) (pss_one (ps_set (i := 2) sc_table_of.nd rfl (Or.inl rfl) (pe_mB (k := 4) (pv 4) (hr.mono (by decide)) (pa_name (pv 2) pa_nil))))))) (pss_one (ps_ret (pe_cB C_table_of_rays (hr.mono (by decide)) pass01 (pa_name (pv 1) (pa_name (pv 2) pa_nil))))))))), ?_⟩
  refine ⟨_, rfl, _, ps, m, rfl, hb, g, by omega, fun H1 s1 => ?_⟩
  refine ⟨(by show 2 ≤ sizeLine; decide), fun p1 hp1 => ?_⟩
  have u1 := same_new hp1 (.tup [.ref ad.ONE, .ref ad.NOUGHT])
  have d1 : DV K (upd H1 p1 (.tup [.ref ad.ONE, .ref ad.NOUGHT])) (.ref p1) (rayD e1) := DV.upd2 hp1 (dO T H1) (dN T H1)
  refine ⟨(by show 2 ≤ sizeLine; decide), fun p2 hp2 => ?_⟩
  have u2 := same_new hp2 (.tup [.ref ad.NOUGHT, .ref ad.ONE])
  have d2 : DV K (upd (upd H1 p1 (.tup [.ref ad.ONE, .ref ad.NOUGHT])) p2 (.tup [.ref ad.NOUGHT, .ref ad.ONE])) (.ref p2) (rayD e2) := DV.upd2 hp2 (dN T _) (dO T _)
  have s2 := s1.trans (u1.trans u2)
  refine ⟨_, rfl, a, rfl, ⟨_, ha.keep s2⟩, ?_⟩
  refine for_list (K := K) (a := a) (xs := xs) (fun i σ H' => ∃ c3 c4 v1 v2, σ = [some (.ref a), some v1, some v2, c3, c4] ∧ Same H H' ∧ DV K H' v1 (rayD (bend (ps.take i) e1)) ∧ DV K H' v2 (rayD (bend (ps.take i) e2)) ∧ RB (2 + i * (m + 1)) (bend (ps.take i) e1) ∧ RB (2 + i * (m + 1)) (bend (ps.take i) e2)) ⟨_, _, _, _, rfl, s2, d1.keep u2, d2, by simpa [bend] using r1, by simpa [bend] using r2⟩ ?_ ?_ ?_
  · rintro i σ H' hi ⟨c3, c4, v1, v2, rfl, s3, _⟩
    exact ha.keep s3
  · rintro i x σ H' hi ⟨c3, c4, v1, v2, rfl, s3, hv1, hv2, b1, b2⟩
    obtain ⟨d, hd, hx⟩ := hxs.get hi
    obtain ⟨pc, hpc, rfl⟩ := get_map_pc hd
    have hmem := List.mem_of_getElem? hpc
    have hi' := lt_of_get hpc
    have bi : 2 + i * (m + 1) + m ≤ 3900 := by
      have : i * (m + 1) ≤ ps.length * (m + 1) := Nat.mul_le_mul_right _ (by omega)
      omega
    have et : ∀ r, bend (ps.take (i + 1)) r = pc.bent (bend (ps.take i) r) := fun r => by
      rw [List.take_add_one, hpc, bend_append]
      rfl
    refine ⟨_, rfl, _, pc, rfl, hx.keep s3, fun o H5 s5 ho => ?_⟩
    obtain ⟨oa, C, dx, fs, pps, sp, q1, q2, q3, M, hsp⟩ := ob_bent (P := P) (w := w) (base := base) T ho (hv1.keep s5) b1 (g.bd _ hmem) bi
    refine ⟨_, rfl, oa, C, dx, fs, pps, sp, q1, q2, q3, M, _, rfl, hsp _ (fun w1 H6 s6 hw1 => ?_)⟩
    obtain ⟨oa, C, dx, fs, pps, sp, q1, q2, q3, M, hsp⟩ := ob_bent (P := P) (w := w) (base := base) T (ho.keep s6) (hv2.keep (s5.trans s6)) b2 (g.bd _ hmem) bi
    refine ⟨_, rfl, oa, C, dx, fs, pps, sp, q1, q2, q3, M, _, rfl, hsp _ (fun w2 H7 s7 hw2 => ?_)⟩
    refine ⟨_, _, w1, w2, rfl, s3.trans (s5.trans (s6.trans s7)), ?_, ?_, ?_, ?_⟩
    · rw [et]; exact hw1.keep s7
    · rw [et]; exact hw2
    · rw [et]; exact Rb.mono (bent_rb (g.bd _ hmem) b1) (by rw [Nat.add_mul]; omega)
    · rw [et]; exact Rb.mono (bent_rb (g.bd _ hmem) b2) (by rw [Nat.add_mul]; omega)
  · rintro σ H' ⟨c3, c4, v1, v2, rfl, s3, hv1, hv2, b1, b2⟩
    rw [hl, List.take_length] at hv1 hv2
    exact ⟨_, rfl, _, rfl, _, _, .cons hv1 (.cons hv2 .nil), ⟨_, _, rfl, rfl⟩, fun v4 H4 s4 hv4 => k _ _ (s3.trans s4) hv4⟩
theorem c_made_by (T : Txt K mg ad) : CalB P w K mg base true 4 "made_by" ["table", "ray"] (PR K RMade) := by
  have C_sum_of := c_sum_of (P := P) (w := w) (base := base) T
  have C_product_of := c_product_of (P := P) (w := w) (base := base) T
  refine T.t_made_by.calN sc_made_by (fun _ _ _ _ _ _ => by2 fun _ _ => rfl) (fun vs H Q E h => ?_) (fun f cdv A outer s H vs Q E hr h => ?_)
  · obtain ⟨_, _, dv, ⟨_, _, _, rfl, _⟩, _⟩ := h; exact dv.len
  obtain ⟨_, _, dv, ⟨t, r, n, rfl, tb, b1, b2, hn, rfl⟩, k⟩ := h
  obtain ⟨_, _, rfl, hx, hy⟩ := dv.two
  obtain ⟨a, x1, x2, x3, x4, rfl, ha, h1, h2, h3, h4⟩ := DV.t4 hx
  obtain ⟨b, y1, y2, rfl, hb, hy1, hy2⟩ := DV.t2 hy
  refine ⟨_, (pss_cons (ps_set (i := 2) sc_made_by.nd rfl (Or.inl rfl) (pe_cB C_sum_of (hr.mono (by decide)) pass01 (pa_call (pe_cB C_product_of (hr.mono (by decide)) pass01 (pa_sub (pe_ix ix_tup (pv 0) pe_int (fun _ _ => rfl)) (pa_sub (pe_ix ix_tup (pv 1) pe_int (fun _ _ => rfl)) pa_nil))) (pa_call (pe_cB C_product_of (hr.mono (by decide)) pass01 (pa_sub (pe_ix ix_tup (pv 0) pe_int (fun _ _ => rfl)) (pa_sub (pe_ix ix_tup (pv 1) pe_int (fun _ _ => rfl)) pa_nil))) pa_nil)))) (pss_cons (ps_set (i := 3) sc_made_by.nd rfl (Or.inl rfl) (pe_cB C_sum_of (hr.mono (by decide)) pass01 (pa_call (pe_cB C_product_of (hr.mono (by decide)) pass01 (pa_sub (pe_ix ix_tup (pv 0) pe_int (fun _ _ => rfl)) (pa_sub (pe_ix ix_tup (pv 1) pe_int (fun _ _ => rfl)) pa_nil))) (pa_call (pe_cB C_product_of (hr.mono (by decide)) pass01 (pa_sub (pe_ix ix_tup (pv 0) pe_int (fun _ _ => rfl)) (pa_sub (pe_ix ix_tup (pv 1) pe_int (fun _ _ => rfl)) pa_nil))) pa_nil)))) (pss_one (ps_ret (pe_tup (pa_name (pv 2) (pa_name (pv 3) pa_nil))))))), ?_⟩
  refine ⟨_, rfl, a, _, _, _, rfl, rfl, ha, rfl, _, rfl, b, _, _, _, rfl, rfl, hb, rfl, ?_⟩
  refine ⟨_, _, .cons h1 (.cons hy1 .nil), ⟨_, _, rfl, tb.a.sm (by omega), b1.sm (by omega), rfl⟩, fun v1 H1 s1 hv1 => ?_⟩
  refine ⟨_, rfl, a, _, _, _, rfl, rfl, ha.keep s1, rfl, _, rfl, b, _, _, _, rfl, rfl, hb.keep s1, rfl, ?_⟩
  refine ⟨_, _, .cons (h2.keep s1) (.cons (hy2.keep s1) .nil), ⟨_, _, rfl, tb.b.sm (by omega), b2.sm (by omega), rfl⟩, fun v2 H2 s2 hv2 => ?_⟩
  refine ⟨_, _, .cons (hv1.keep s2) (.cons hv2 .nil), ⟨_, _, rfl, (tb.a.mul b1).sm (by omega), (tb.b.mul b2).sm (by omega), rfl⟩, fun v3 H3 s3 hv3 => ?_⟩
  have s13 := s1.trans (s2.trans s3)
  refine ⟨_, rfl, a, _, _, _, rfl, rfl, ha.keep s13, rfl, _, rfl, b, _, _, _, rfl, rfl, hb.keep s13, rfl, ?_⟩
  refine ⟨_, _, .cons (h3.keep s13) (.cons (hy1.keep s13) .nil), ⟨_, _, rfl, tb.c.sm (by omega), b1.sm (by omega), rfl⟩, fun v4 H4 s4 hv4 => ?_⟩
  have s14 := s13.trans s4
  refine ⟨_, rfl, a, _, _, _, rfl, rfl, ha.keep s14, rfl, _, rfl, b, _, _, _, rfl, rfl, hb.keep s14, rfl, ?_⟩
  refine ⟨_, _, .cons (h4.keep s14) (.cons (hy2.keep s14) .nil), ⟨_, _, rfl, tb.d.sm (by omega), b2.sm (by omega), rfl⟩, fun v5 H5 s5 hv5 => ?_⟩
  refine ⟨_, _, .cons (hv4.keep s5) (.cons hv5 .nil), ⟨_, _, rfl, (tb.c.mul b1).sm (by omega), (tb.d.mul b2).sm (by omega), rfl⟩, fun v6 H6 s6 hv6 => ?_⟩
  refine ⟨_, rfl, _, rfl, (by show 2 ≤ sizeLine; decide), fun p hp => ?_⟩
  exact k _ _ (s14.trans (s5.trans (s6.trans (same_new hp _)))) (DV.upd2 hp (hv3.keep (s4.trans (s5.trans s6))) hv6)
theorem c_joined (T : Txt K mg ad) : CalB P w K mg base true 5 "joined" ["first", "second"] (PR K RJoined) := by
  have C_made_by := c_made_by (P := P) (w := w) (base := base) T
  have C_table_of_rays := c_table_of_rays (P := P) (w := w) (base := base) T
  refine T.t_joined.calN sc_joined (fun _ _ _ _ _ _ => by2 fun _ _ => rfl) (fun vs H Q E h => ?_) (fun f cdv A outer s H vs Q E hr h => ?_)
  · obtain ⟨_, _, dv, ⟨_, _, _, rfl, _⟩, _⟩ := h; exact dv.len
  obtain ⟨_, _, dv, ⟨t, u, n, rfl, tt, tu, hn, rfl⟩, k⟩ := h
  obtain ⟨_, y, rfl, hx, hy⟩ := dv.two
  obtain ⟨a, x1, x2, x3, x4, rfl, ha, h1, h2, h3, h4⟩ := DV.t4 hx
  refine ⟨_, (pss_one (ps_ret (pe_cB C_table_of_rays (hr.mono (by decide)) pass01 (pa_call (pe_cB C_made_by (hr.mono (by decide)) pass01 (pa_name (pv 1) (pa_tuple (pe_tup (pa_sub (pe_ix ix_tup (pv 0) pe_int (fun _ _ => rfl)) (pa_sub (pe_ix ix_tup (pv 0) pe_int (fun _ _ => rfl)) pa_nil))) pa_nil))) (pa_call (pe_cB C_made_by (hr.mono (by decide)) pass01 (pa_name (pv 1) (pa_tuple (pe_tup (pa_sub (pe_ix ix_tup (pv 0) pe_int (fun _ _ => rfl)) (pa_sub (pe_ix ix_tup (pv 0) pe_int (fun _ _ => rfl)) pa_nil))) pa_nil))) pa_nil))))), ?_⟩
  refine ⟨_, rfl, _, rfl, a, _, _, _, rfl, rfl, ha, rfl, _, rfl, a, _, _, _, rfl, rfl, ha, rfl, (by show 2 ≤ sizeLine; decide), fun p hp => ?_⟩
  have u1 := same_new hp (.tup [x1, x3])
  refine ⟨_, _, .cons (hy.keep u1) (.cons (DV.upd2 hp h1 h3) .nil), ⟨u, (t.a, t.c), n, rfl, tu, tt.a, tt.c, hn, rfl⟩, fun v1 H1 s1 hv1 => ?_⟩
  have s2 := u1.trans s1
  refine ⟨_, rfl, _, rfl, a, _, _, _, rfl, rfl, ha.keep s2, rfl, _, rfl, a, _, _, _, rfl, rfl, ha.keep s2, rfl, (by show 2 ≤ sizeLine; decide), fun p2 hp2 => ?_⟩
  have u2 := same_new hp2 (.tup [x2, x4])
  have s3 := s2.trans u2
  refine ⟨_, _, .cons (hy.keep s3) (.cons (DV.upd2 hp2 (h2.keep s2) (h4.keep s2)) .nil), ⟨u, (t.b, t.d), n, rfl, tu, tt.b, tt.d, hn, rfl⟩, fun v2 H2 s4 hv2 => ?_⟩
  exact ⟨_, _, .cons (hv1.keep (u2.trans s4)) (.cons hv2 .nil), ⟨_, _, rfl, rfl⟩, fun v3 H3 s5 hv3 => k _ _ (s3.trans (s4.trans s5)) hv3⟩
theorem c_spread_of (T : Txt K mg ad) : CalB P w K mg base true 4 "spread_of" ["table", "s"] (PR K RSpread) := by
  have C_sum_of := c_sum_of (P := P) (w := w) (base := base) T
  have C_product_of := c_product_of (P := P) (w := w) (base := base) T
  refine T.t_spread_of.calN sc_spread_of (fun _ _ _ _ _ _ => by2 fun _ _ => rfl) (fun vs H Q E h => ?_) (fun f cdv A outer s H vs Q E hr h => ?_)
  · obtain ⟨_, _, dv, ⟨_, _, _, rfl, _⟩, _⟩ := h; exact dv.len
  obtain ⟨_, _, dv, ⟨t, q, n, rfl, tb, bq, hn, rfl⟩, k⟩ := h
  obtain ⟨_, y, rfl, hx, hy⟩ := dv.two
  obtain ⟨a, x1, x2, x3, x4, rfl, ha, h1, h2, h3, h4⟩ := DV.t4 hx
  refine ⟨_, (pss_cons (ps_set (i := 2) sc_spread_of.nd rfl (Or.inl rfl) (pe_cB C_sum_of (hr.mono (by decide)) pass01 (pa_call (pe_cB C_product_of (hr.mono (by decide)) pass01 (pa_sub (pe_ix ix_tup (pv 0) pe_int (fun _ _ => rfl)) (pa_name (pv 1) pa_nil))) (pa_sub (pe_ix ix_tup (pv 0) pe_int (fun _ _ => rfl)) pa_nil)))) (pss_cons (ps_set (i := 3) sc_spread_of.nd rfl (Or.inl rfl) (pe_cB C_sum_of (hr.mono (by decide)) pass01 (pa_call (pe_cB C_product_of (hr.mono (by decide)) pass01 (pa_sub (pe_ix ix_tup (pv 0) pe_int (fun _ _ => rfl)) (pa_name (pv 1) pa_nil))) (pa_sub (pe_ix ix_tup (pv 0) pe_int (fun _ _ => rfl)) pa_nil)))) (pss_one (ps_ret (pe_tup (pa_name (pv 2) (pa_name (pv 3) pa_nil))))))), ?_⟩
  refine ⟨_, rfl, a, _, _, _, rfl, rfl, ha, rfl, _, rfl, ?_⟩
  refine ⟨_, _, .cons h1 (.cons hy .nil), ⟨_, _, rfl, tb.a.sm (by omega), bq.sm (by omega), rfl⟩, fun v1 H1 s1 hv1 => ?_⟩
  refine ⟨_, rfl, a, _, _, _, rfl, rfl, ha.keep s1, rfl, ?_⟩
  refine ⟨_, _, .cons hv1 (.cons (h2.keep s1) .nil), ⟨_, _, rfl, (tb.a.mul bq).sm (by omega), tb.b.sm (by omega), rfl⟩, fun v2 H2 s2 hv2 => ?_⟩
  have s12 := s1.trans s2
  refine ⟨_, rfl, a, _, _, _, rfl, rfl, ha.keep s12, rfl, _, rfl, ?_⟩
  refine ⟨_, _, .cons (h3.keep s12) (.cons (hy.keep s12) .nil), ⟨_, _, rfl, tb.c.sm (by omega), bq.sm (by omega), rfl⟩, fun v3 H3 s3 hv3 => ?_⟩
  have s13 := s12.trans s3
  refine ⟨_, rfl, a, _, _, _, rfl, rfl, ha.keep s13, rfl, ?_⟩
  refine ⟨_, _, .cons hv3 (.cons (h4.keep s13) .nil), ⟨_, _, rfl, (tb.c.mul bq).sm (by omega), tb.d.sm (by omega), rfl⟩, fun v4 H4 s4 hv4 => ?_⟩
  refine ⟨_, rfl, _, rfl, (by show 2 ≤ sizeLine; decide), fun p hp => ?_⟩
  exact k _ _ (s13.trans (s4.trans (same_new hp _))) (DV.upd2 hp (hv2.keep (s3.trans s4)) hv4)
theorem c_image_of (T : Txt K mg ad) : CalB P w K mg base true 6 "image_of" ["table", "s"] (PR K RImg) := by
  have C_look_at_table := c_look_at_table (P := P) (w := w) (base := base) T
  have C_spread_of := c_spread_of (P := P) (w := w) (base := base) T
  have C_less_by := c_less_by (P := P) (w := w) (base := base) T
  have C_quotient_of := c_quotient_of (P := P) (w := w) (base := base) T
  refine T.t_image_of.calN sc_image_of (fun _ _ _ _ _ _ => by2 fun _ _ => rfl) (fun vs H Q E h => ?_) (fun f cdv A outer s H vs Q E hr h => ?_)
  · obtain ⟨_, _, dv, ⟨_, _, _, rfl, _⟩, _⟩ := h; exact dv.len
  obtain ⟨_, _, dv, ⟨t, q, n, rfl, tb, hdet, bq, hn, rfl⟩, k⟩ := h
  obtain ⟨_, y, rfl, hx, hy⟩ := dv.two
  obtain ⟨sb1, sb2⟩ := spread_bd tb bq
  refine ⟨_, (pss_cons (ps_expr (pe_cB C_look_at_table (hr.mono (by decide)) pass01 (pa_name (pv 0) pa_nil))) (pss_cons (ps_set (i := 2) sc_image_of.nd rfl (Or.inl rfl) (pe_cB C_spread_of (hr.mono (by decide)) pass01 (pa_name (pv 0) (pa_name (pv 1) pa_nil)))) (pss_cons (ps_if (pt_cmpR (op_eqD hr.units) (pe_ix ix_tup (pv 2) pe_int (fun _ _ => rfl)) (pe_glob (v := .ref ad.NOUGHT) rfl T.ex.m_NOUGHT rfl) (nomark _)) (pss_one (ps_ret pe_non)) pss_nil) (pss_one (ps_ret (pe_cB C_less_by (hr.mono (by decide)) pass01 (pa_name (pe_glob (v := .ref ad.NOUGHT) rfl T.ex.m_NOUGHT rfl) (pa_call (pe_cB C_quotient_of (hr.mono (by decide)) pass01 (pa_sub (pe_ix ix_tup (pv 2) pe_int (fun _ _ => rfl)) (pa_sub (pe_ix ix_tup (pv 2) pe_int (fun _ _ => rfl)) pa_nil))) pa_nil)))))))), ?_⟩
  refine ⟨_, rfl, _, _, .cons hx .nil, ⟨t, n, rfl, tb, by omega, hdet, rfl⟩, fun v0 H1 s1 _ => ?_⟩
  refine ⟨_, rfl, _, rfl, _, _, .cons (hx.keep s1) (.cons (hy.keep s1) .nil), ⟨t, q, n, rfl, tb, bq, by omega, rfl⟩, fun v H2 s2 hv => ?_⟩
  obtain ⟨b, y1, y2, rfl, hb, hy1, hy2⟩ := DV.t2 hv
  have s12 := s1.trans s2
  refine ⟨_, rfl, b, _, _, _, rfl, rfl, hb, rfl, eq_frG hy2 (dN T H2) ⟨_, rfl, ?_⟩⟩
  unfold img at k
  by_cases hz : (spread t q).2 = 0
  · rw [if_pos hz] at k
    exact iteT' (decide_eq_true hz) (k _ _ s12 .non)
  · rw [if_neg hz] at k
    refine iteF' (decide_eq_false hz) ?_
    refine ⟨_, rfl, b, _, _, _, rfl, rfl, hb, rfl, _, rfl, b, _, _, _, rfl, rfl, hb, rfl, ?_⟩
    refine ⟨_, _, .cons hy1 (.cons hy2 .nil), ⟨_, _, rfl, sb1.sm (by omega), sb2.sm (by omega), hz, rfl⟩, fun v3 H3 s3 hv3 => ?_⟩
    exact ⟨_, _, .cons (dN T H3) (.cons hv3 .nil), ⟨0, _, rfl, Sm.zero, (sb1.div sb2 hz).sm (by omega), rfl⟩, fun v4 H4 s4 hv4 => k _ _ (s12.trans (s3.trans s4)) hv4⟩
theorem c_growth_of (T : Txt K mg ad) : CalB P w K mg base true 6 "growth_of" ["table", "s"] (PR K RGrw) := by
  have C_look_at_table := c_look_at_table (P := P) (w := w) (base := base) T
  have C_spread_of := c_spread_of (P := P) (w := w) (base := base) T
  have C_quotient_of := c_quotient_of (P := P) (w := w) (base := base) T
  refine T.t_growth_of.calN sc_growth_of (fun _ _ _ _ _ _ => by2 fun _ _ => rfl) (fun vs H Q E h => ?_) (fun f cdv A outer s H vs Q E hr h => ?_)
  · obtain ⟨_, _, dv, ⟨_, _, _, rfl, _⟩, _⟩ := h; exact dv.len
  obtain ⟨_, _, dv, ⟨t, q, n, rfl, tb, hdet, bq, hn, rfl⟩, k⟩ := h
  obtain ⟨_, y, rfl, hx, hy⟩ := dv.two
  obtain ⟨sb1, sb2⟩ := spread_bd tb bq
  refine ⟨_, (pss_cons (ps_expr (pe_cB C_look_at_table (hr.mono (by decide)) pass01 (pa_name (pv 0) pa_nil))) (pss_cons (ps_set (i := 2) sc_growth_of.nd rfl (Or.inl rfl) (pe_cB C_spread_of (hr.mono (by decide)) pass01 (pa_name (pv 0) (pa_name (pv 1) pa_nil)))) (pss_cons (ps_if (pt_cmpR (op_eqD hr.units) (pe_ix ix_tup (pv 2) pe_int (fun _ _ => rfl)) (pe_glob (v := .ref ad.NOUGHT) rfl T.ex.m_NOUGHT rfl) (nomark _)) (pss_one (ps_ret pe_non)) pss_nil) (pss_one (ps_ret (pe_cB C_quotient_of (hr.mono (by decide)) pass01 (pa_name (pe_glob (v := .ref ad.ONE) rfl T.ex.m_ONE rfl) (pa_sub (pe_ix ix_tup (pv 2) pe_int (fun _ _ => rfl)) pa_nil)))))))), ?_⟩
  refine ⟨_, rfl, _, _, .cons hx .nil, ⟨t, n, rfl, tb, by omega, hdet, rfl⟩, fun v0 H1 s1 _ => ?_⟩
  refine ⟨_, rfl, _, rfl, _, _, .cons (hx.keep s1) (.cons (hy.keep s1) .nil), ⟨t, q, n, rfl, tb, bq, by omega, rfl⟩, fun v H2 s2 hv => ?_⟩
  obtain ⟨b, y1, y2, rfl, hb, hy1, hy2⟩ := DV.t2 hv
  have s12 := s1.trans s2
  refine ⟨_, rfl, b, _, _, _, rfl, rfl, hb, rfl, eq_frG hy2 (dN T H2) ⟨_, rfl, ?_⟩⟩
  unfold grw at k
  by_cases hz : (spread t q).2 = 0
  · rw [if_pos hz] at k
    exact iteT' (decide_eq_true hz) (k _ _ s12 .non)
  · rw [if_neg hz] at k
    refine iteF' (decide_eq_false hz) ?_
    refine ⟨_, rfl, b, _, _, _, rfl, rfl, hb, rfl, ?_⟩
    exact ⟨_, _, .cons (dO T H2) (.cons hy2 .nil), ⟨1, _, rfl, Sm.one, sb2.sm (by omega), hz, rfl⟩, fun v3 H3 s3 hv3 => k _ _ (s12.trans s3) hv3⟩
end
end K65
namespace K65
open PySem L2 Lib Fr Op
seal PE PT PW PA PS PSs PG PGs PI PO PIfs
section
variable {P : Program} {w : World} {K : PySem.W.Frag} {mg : Str → Option Value} {base : Heap} {ad : Adr} {c : Bool}
theorem c__law_cell_at (T : Txt K mg ad) : CalB P w K mg base true 1 "_law_cell_at" ["_law_script", "_law_k"] (spCell K) := by
  refine T.t__law_cell_at.calN sc__law_cell_at (fun _ _ _ _ _ _ => by2 fun _ _ => rfl) (fun vs H Q E h => ?_) (fun f cdv A outer s H vs Q E hr h => ?_)
  · obtain ⟨_, _, _, rfl, _⟩ := h; rfl
  obtain ⟨a, ns, k, rfl, hS, k0, q⟩ := h
  refine ⟨_, (pss_cons (ps_if (pt_cmpR op_lt (pv 1) (pe_callB call_len_seq rfl T.len bt_len (pa_name (pv 0) pa_nil)) (nomark _)) (pss_one (ps_ret (pe_ix ix_list (pv 0) (pv 1) (fun _ _ => rfl)))) pss_nil) (pss_one (ps_ret pe_int))), ?_⟩
  refine ⟨_, rfl, _, rfl, a, _, rfl, .inl hS, _, _, rfl, rfl, _, rfl, ?_⟩
  refine ite2 (fun hc => ?_) (fun _ => q 0)
  have hc : k < (((ns.map V.int).length : Nat) : Int) := of_decide_eq_true hc
  obtain ⟨v, hv, hm⟩ := atI_in (xs := ns.map V.int) k0 hc
  obtain ⟨z, _, rfl⟩ := List.mem_map.mp hm
  exact ⟨_, rfl, _, rfl, a, _, _, _, rfl, rfl, hS, hv, q z⟩
theorem c__law_lowest (T : Txt K mg ad) : CalB P w K mg base true 1 "_law_lowest" ["_law_top", "_law_bottom"] spLowP := by
  refine T.t__law_lowest.calN sc__law_lowest (fun _ _ _ _ _ _ => by2 fun _ _ => rfl) (fun vs H Q E h => ?_) (fun f cdv A outer s H vs Q E hr h => ?_)
  · obtain ⟨a, b, rfl, _⟩ := h; rfl
  obtain ⟨a, b, rfl, bp, bs, q⟩ := h
  have b0 : b ≠ 0 := by omega
  refine ⟨_, (pss_cons (ps_par (i := 2) (j := 3) rfl sc__law_lowest.nd rfl rfl (by decide) rfl rfl (pa_call (pe_callB call_abs rfl T.abs bt_abs (pa_name (pv 0) pa_nil)) (pa_name (pv 1) pa_nil)) rfl) (pss_cons (ps_while PassesOwn.never (pt_cmpR op_gt (pv 3) pe_int (nomark _)) (pss_one (ps_par (i := 2) (j := 3) rfl sc__law_lowest.nd rfl rfl (by decide) rfl rfl (pa_name (pv 3) (pa_bin (pe_op op_mod (pv 2) (pv 3)) pa_nil)) rfl))) (pss_one (ps_ret (pe_tup (pa_bin (pe_op op_fdivW (pv 0) (pv 2)) (pa_bin (pe_op op_fdivW (pv 1) (pv 2)) pa_nil))))))), ?_⟩
  refine ⟨_, rfl, _, rfl, _, rfl, _, _, rfl, ?_⟩
  have ea := Fr.absE a
  have eb : b = (b.natAbs : Int) := by omega
  refine ⟨fun k σ H' => H = H' ∧ ∃ (m : Nat), σ = [some (.int a), some (.int b), some (.int m), some (.int k)] ∧ Nat.gcd m k = Nat.gcd a.natAbs b.natAbs, ⟨b.natAbs, rfl, a.natAbs, by rw [← ea, ← eb]; rfl, rfl⟩, ?_⟩
  rintro n _ _ ⟨rfl, m, rfl, e⟩
  refine ⟨_, rfl, _, _, rfl, rfl, _, rfl, ?_⟩
  refine ite2 (fun c => ?_) (fun c => ?_)
  · have hn : n ≠ 0 := by
      intro z
      subst z
      simp at c
    have h1 : (m : Int) % (n : Int) = ((m % n : Nat) : Int) := (Int.natCast_emod m n).symm
    refine ⟨fun σ' H' => H = H' ∧ σ' = [some (.int a), some (.int b), some (.int n), some (.int ((m : Int) % (n : Int)))], ?_, ?_⟩
    · rintro _ _ ⟨rfl, rfl⟩
      rw [h1]
      exact ⟨m % n, Nat.mod_lt _ (by omega), rfl, n, rfl, by rw [Fr.gcd_turn, e]⟩
    · exact ⟨_, rfl, _, rfl, _, rfl, _, _, rfl, rfl, (by show (0 : Int) < (n : Int); omega), _, _, rfl, rfl, rfl⟩
  · have hn : n = 0 := by
      by_cases z : n = 0
      · exact z
      · exfalso
        apply c
        exact decide_eq_true (by omega)
    subst hn
    have e2 : (m : Int) = Fr.gcd a b := by
      unfold Fr.gcd
      rw [← e, Nat.gcd_zero_right]
    have gl := Fr.gcd_le (a := a) b0
    have gn := Fr.gcd_nn a b
    have eg : (m : Int) = Fr.sg a b := by
      unfold Fr.sg
      rw [if_neg (by omega), e2]
    have gs : (m : Int).natAbs.log2 < 9000 := by
      have h2 : (m : Int).natAbs < lim := by omega
      exact lim_log h2
    have ne : (m : Int) ≠ 0 := by rw [eg]; exact Fr.sg_ne b0
    refine ⟨_, rfl, _, rfl, _, _, rfl, rfl, ⟨ne, gs⟩, _, rfl, _, rfl, _, _, rfl, rfl, ⟨ne, gs⟩, (by show 2 ≤ sizeLine; decide), fun p hp => ?_⟩
    rw [eg]
    exact q p hp
theorem c__law_sum (T : Txt K mg ad) : CalB P w K mg base true 3 "_law_sum" ["_law_one", "_law_other"] (PR K (RBin fun p q => p + q)) := by
  have C__law_lowest := c__law_lowest (P := P) (w := w) (base := base) T
  refine T.t__law_sum.calN sc__law_sum (fun _ _ _ _ _ _ => by2 fun _ _ => rfl) (fun vs H Q E h => ?_) (fun f cdv A outer s H vs Q E hr h => ?_)
  · obtain ⟨_, _, dv, ⟨_, _, rfl, _⟩, _⟩ := h; exact dv.len
  obtain ⟨_, _, dv, ⟨p, q, rfl, sp, sq, rfl⟩, k⟩ := h
  obtain ⟨_, _, rfl, hx, hy⟩ := dv.two
  obtain ⟨a, rfl, ha⟩ := hx.fr
  obtain ⟨b, rfl, hb⟩ := hy.fr
  refine ⟨_, (pss_one (ps_ret (pe_cB C__law_lowest (hr.mono (by decide)) pass01 (pa_bin (pe_op op_add (pe_op op_mulW (pe_ix ix_tup (pv 0) pe_int (fun _ _ => rfl)) (pe_ix ix_tup (pv 1) pe_int (fun _ _ => rfl))) (pe_op op_mulW (pe_ix ix_tup (pv 1) pe_int (fun _ _ => rfl)) (pe_ix ix_tup (pv 0) pe_int (fun _ _ => rfl)))) (pa_bin (pe_op op_mulW (pe_ix ix_tup (pv 0) pe_int (fun _ _ => rfl)) (pe_ix ix_tup (pv 1) pe_int (fun _ _ => rfl))) pa_nil))))), ?_⟩
  refine ⟨_, rfl, a, _, _, _, rfl, rfl, ha, rfl, _, rfl, b, _, _, _, rfl, rfl, hb, rfl, _, _, rfl, rfl, mulW sp.n sq.dn, ?_⟩
  refine ⟨_, rfl, b, _, _, _, rfl, rfl, hb, rfl, _, rfl, a, _, _, _, rfl, rfl, ha, rfl, _, _, rfl, rfl, mulW sq.n sp.dn, _, _, rfl, rfl, ?_⟩
  refine ⟨_, rfl, a, _, _, _, rfl, rfl, ha, rfl, _, rfl, b, _, _, _, rfl, rfl, hb, rfl, _, _, rfl, rfl, mulW sp.dn sq.dn, ?_⟩
  refine ⟨_, _, rfl, Int.mul_pos (denp p) (denp q), mul_lim sp.dn sq.dn, fun r hr => k _ _ (same_new hr _) ?_⟩
  have e := dv_low (K := K) (H := H) (t := p.num * (q.den : Int) + q.num * (p.den : Int)) (b := (p.den : Int) * (q.den : Int)) (p := r) (den_mul0 p q)
  rw [Fr.sum_rat] at e
  exact e
theorem c__law_product (T : Txt K mg ad) : CalB P w K mg base true 3 "_law_product" ["_law_one", "_law_other"] (PR K (RBin fun p q => p * q)) := by
  have C__law_lowest := c__law_lowest (P := P) (w := w) (base := base) T
  refine T.t__law_product.calN sc__law_product (fun _ _ _ _ _ _ => by2 fun _ _ => rfl) (fun vs H Q E h => ?_) (fun f cdv A outer s H vs Q E hr h => ?_)
  · obtain ⟨_, _, dv, ⟨_, _, rfl, _⟩, _⟩ := h; exact dv.len
  obtain ⟨_, _, dv, ⟨p, q, rfl, sp, sq, rfl⟩, k⟩ := h
  obtain ⟨_, _, rfl, hx, hy⟩ := dv.two
  obtain ⟨a, rfl, ha⟩ := hx.fr
  obtain ⟨b, rfl, hb⟩ := hy.fr
  refine ⟨_, (pss_one (ps_ret (pe_cB C__law_lowest (hr.mono (by decide)) pass01 (pa_bin (pe_op op_mulW (pe_ix ix_tup (pv 0) pe_int (fun _ _ => rfl)) (pe_ix ix_tup (pv 1) pe_int (fun _ _ => rfl))) (pa_bin (pe_op op_mulW (pe_ix ix_tup (pv 0) pe_int (fun _ _ => rfl)) (pe_ix ix_tup (pv 1) pe_int (fun _ _ => rfl))) pa_nil))))), ?_⟩
  refine ⟨_, rfl, a, _, _, _, rfl, rfl, ha, rfl, _, rfl, b, _, _, _, rfl, rfl, hb, rfl, _, _, rfl, rfl, mulW sp.n sq.n, ?_⟩
  refine ⟨_, rfl, a, _, _, _, rfl, rfl, ha, rfl, _, rfl, b, _, _, _, rfl, rfl, hb, rfl, _, _, rfl, rfl, mulW sp.dn sq.dn, ?_⟩
  refine ⟨_, _, rfl, Int.mul_pos (denp p) (denp q), mul_lim sp.dn sq.dn, fun r hr => k _ _ (same_new hr _) ?_⟩
  have e := dv_low (K := K) (H := H) (t := p.num * q.num) (b := (p.den : Int) * (q.den : Int)) (p := r) (den_mul0 p q)
  rw [Fr.prod_rat] at e
  exact e
theorem c__law_less (T : Txt K mg ad) : CalB P w K mg base true 1 "_law_less" ["_law_one"] (PR K RNeg) := by
  refine T.t__law_less.calN sc__law_less (fun _ _ _ _ _ _ => by1 fun _ => rfl) (fun vs H Q E h => ?_) (fun f cdv A outer s H vs Q E hr h => ?_)
  · obtain ⟨_, _, dv, ⟨_, rfl, _⟩, _⟩ := h; exact dv.len
  obtain ⟨_, _, dv, ⟨q, rfl, rfl⟩, k⟩ := h
  obtain ⟨_, rfl, hy⟩ := dv.one
  obtain ⟨b, rfl, hb⟩ := hy.fr
  refine ⟨_, (pss_one (ps_ret (pe_tup (pa_bin (pe_op op_sub pe_int (pe_ix ix_tup (pv 0) pe_int (fun _ _ => rfl))) (pa_sub (pe_ix ix_tup (pv 0) pe_int (fun _ _ => rfl)) pa_nil))))), ?_⟩
  refine ⟨_, rfl, b, _, _, _, rfl, rfl, hb, rfl, _, _, rfl, rfl, _, rfl, b, _, _, _, rfl, rfl, hb, rfl, (by show 2 ≤ sizeLine; decide), fun p2 hp2 => k _ _ (same_new hp2 _) ?_⟩
  rw [frD_neg]
  exact .tup (SqT.of upd_same) (.cons (.int _) (.cons (.int _) .nil))
theorem c__law_bent (T : Txt K mg ad) : CalB P w K mg base true 4 "_law_bent" ["_law_bench_here", "_law_ray"] (PR K RThru) := by
  have C__law_sum := c__law_sum (P := P) (w := w) (base := base) T
  have C__law_product := c__law_product (P := P) (w := w) (base := base) T
  have C__law_less := c__law_less (P := P) (w := w) (base := base) T
  refine T.t__law_bent.calN sc__law_bent (fun _ _ _ _ _ _ => by2 fun _ _ => rfl) (fun vs H Q E h => ?_) (fun f cdv A outer s H vs Q E hr h => ?_)
  · obtain ⟨_, _, dv, ⟨_, _, _, _, rfl, _⟩, _⟩ := h; exact dv.len
  obtain ⟨_, _, dv, ⟨ps, r, n, m, rfl, g, rb, hnm, rfl⟩, k⟩ := h
  obtain ⟨b, y, rfl, hb, hy⟩ := dv.two
  obtain ⟨a, xs, rfl, ha, hxs⟩ := DV.lst_of hb
  obtain ⟨ra, y1, y2, rfl, hra, hy1, hy2⟩ := DV.t2 hy
  have hl : xs.length = ps.length := by have := hxs.len; rw [List.length_map] at this; exact this
  refine ⟨_, (pss_cons (ps_asg (pv 1) (pg_tup (n := 2) rfl (pgs_cons (pg_name (i := 2) sc__law_bent.nd rfl (by first | exact Or.inl rfl | exact Or.inr rfl)) (pgs_cons (pg_name (i := 3) sc__law_bent.nd rfl (by first | exact Or.inl rfl | exact Or.inr rfl)) pgs_nil)))) (pss_cons (ps_for PassesOwn.never rfl (pi_list (pv 0)) (pg_name (i := 4) sc__law_bent.nd rfl (by first | exact Or.inl rfl | exact Or.inr rfl)) (pss_cons (ps_if (pt_cmpR op_eq (pe_ix ix_tup (pv 4) pe_int (fun _ _ => rfl)) pe_str (nomark _)) (pss_one (ps_set (i := 2) sc__law_bent.nd rfl (Or.inl rfl) (pe_cB C__law_sum (hr.mono (by decide)) pass01 (pa_name (pv 2) (pa_call (pe_cB C__law_product (hr.mono (by decide)) pass01 (pa_sub (pe_ix ix_tup (pv 4) pe_int (fun _ _ => rfl)) (pa_name (pv 3) pa_nil))) pa_nil))))) pss_nil) (pss_one (ps_if (pt_cmpR op_eq (pe_ix ix_tup (pv 4) pe_int (fun _ _ => rfl)) pe_str (nomark _)) (pss_one (ps_set (i := 3) sc__law_bent.nd rfl (Or.inl rfl) (pe_cB C__law_sum (hr.mono (by decide)) pass01 (pa_name (pv 3) (pa_call (pe_cB C__law_less (hr.mono (by decide)) pass01 (pa_call (pe_cB C__law_product (hr.mono (by decide)) pass01 (pa_sub (pe_ix ix_tup (pv 4) pe_int (fun _ _ => rfl)) (pa_name (pv 2) pa_nil))) pa_nil)) pa_nil))))) pss_nil)))) (pss_one (ps_ret (pe_tup (pa_name (pv 2) (pa_name (pv 3) pa_nil))))))), ?_⟩
  refine ⟨_, rfl, ra, _, rfl, hra, rfl, _, _, rfl, _, _, rfl, rfl, ?_⟩
  refine ⟨_, rfl, a, rfl, ⟨_, ha⟩, ?_⟩
  refine for_list (K := K) (a := a) (xs := xs) (fun i σ H' => ∃ c4 v1 v2, σ = [some (.ref a), some (.ref ra), some v1, some v2, c4] ∧ Same H H' ∧ DV K H' v1 (frD (bend (ps.take i) r).1) ∧ DV K H' v2 (frD (bend (ps.take i) r).2) ∧ RB (n + i * (m + 1)) (bend (ps.take i) r)) ⟨_, _, _, rfl, Same.refl _, hy1, hy2, by simpa [bend] using rb⟩ ?_ ?_ ?_
  · rintro i σ H' hi ⟨c4, v1, v2, rfl, s1, _⟩
    exact ha.keep s1
  · rintro i x σ H' hi ⟨c4, v1, v2, rfl, s1, h1, h2, rb'⟩
    obtain ⟨d, hd, hx⟩ := hxs.get hi
    obtain ⟨pc, hpc, rfl⟩ := get_map_pc hd
    have hmem := List.mem_of_getElem? hpc
    have bi := bi_le hnm (lt_of_get hpc)
    have hx1 := hx.keep s1
    have pb := g.bd _ hmem
    have nb := Rb.mono (bent_rb pb rb') (step_le n i m)
    rw [bend_take hpc]
    generalize bend (ps.take i) r = cur at h1 h2 rb' nb
    cases pc with
    | gap e =>
      have pb : Bd m e := pb
      obtain ⟨pa, z, z1, rfl, hpa, hz, hz1⟩ := DV.t2 hx1
      obtain rfl := hz.str_of
      refine ⟨_, rfl, pa, _, _, _, rfl, rfl, hpa, rfl, rfl, _, rfl, iteT' (by decide) ?_⟩
      refine ⟨_, rfl, _, rfl, pa, _, _, _, rfl, rfl, hpa, rfl, _, rfl, ?_⟩
      refine ⟨_, _, .cons hz1 (.cons h2 .nil), ⟨_, _, rfl, pb.sm (le_b bi), rb'.u.sm (le_a bi), rfl⟩, fun v3 H3 s3 hv3 => ?_⟩
      refine ⟨_, _, .cons (h1.keep s3) (.cons hv3 .nil), ⟨_, _, rfl, rb'.y.sm (le_a bi), (pb.mul rb'.u).sm (le_ba bi), rfl⟩, fun v4 H4 s4 hv4 => ?_⟩
      have s34 := s3.trans s4
      exact ⟨_, rfl, pa, _, _, _, rfl, rfl, hpa.keep s34, rfl, rfl, _, rfl, iteF' (by decide) ⟨_, _, _, rfl, s1.trans s34, hv4, h2.keep s34, nb⟩⟩
    | glass e =>
      have pb : Bd m e := pb
      obtain ⟨pa, z, z1, rfl, hpa, hz, hz1⟩ := DV.t2 hx1
      obtain rfl := hz.str_of
      refine ⟨_, rfl, pa, _, _, _, rfl, rfl, hpa, rfl, rfl, _, rfl, iteF' (by decide) ?_⟩
      refine ⟨_, rfl, pa, _, _, _, rfl, rfl, hpa, rfl, rfl, _, rfl, iteT' (by decide) ?_⟩
      refine ⟨_, rfl, _, rfl, pa, _, _, _, rfl, rfl, hpa, rfl, _, rfl, ?_⟩
      refine ⟨_, _, .cons hz1 (.cons h1 .nil), ⟨_, _, rfl, pb.sm (le_b bi), rb'.y.sm (le_a bi), rfl⟩, fun v3 H3 s3 hv3 => ?_⟩
      refine ⟨_, _, .cons hv3 .nil, ⟨_, rfl, rfl⟩, fun v5 H5 s5 hv5 => ?_⟩
      have s35 := s3.trans s5
      refine ⟨_, _, .cons (h2.keep s35) (.cons hv5 .nil), ⟨_, _, rfl, rb'.u.sm (le_a bi), ((pb.mul rb'.y).sm (le_ba bi)).neg, rfl⟩, fun v4 H4 s4 hv4 => ?_⟩
      have s34 := s35.trans s4
      have hv4 : DV K H4 v4 (frD (cur.2 - e * cur.1)) := by
        rw [Rat.sub_eq_add_neg]
        exact hv4
      exact ⟨_, _, _, rfl, s1.trans s34, h1.keep s34, hv4, nb⟩
    | stop lo hi =>
      obtain ⟨pa, z, z1, z2, rfl, hpa, hz, hz1, hz2⟩ := DV.t3 hx1
      obtain rfl := hz.str_of
      refine ⟨_, rfl, pa, _, _, _, rfl, rfl, hpa, rfl, rfl, _, rfl, iteF' (by decide) ?_⟩
      exact ⟨_, rfl, pa, _, _, _, rfl, rfl, hpa, rfl, rfl, _, rfl, iteF' (by decide) ⟨_, _, _, rfl, s1, h1, h2, nb⟩⟩
  · rintro σ H' ⟨c4, v1, v2, rfl, s1, h1, h2, rb'⟩
    rw [hl, List.take_length] at h1 h2
    refine ⟨_, rfl, _, rfl, (by show 2 ≤ sizeLine; decide), fun p hp => ?_⟩
    exact k _ _ (s1.trans (same_new hp _)) (DV.upd2 hp h1 h2)
theorem c__law_table (T : Txt K mg ad) : CalB P w K mg base true 5 "_law_table" ["_law_bench_here"] (PR K RTabOf) := by
  have C__law_bent := c__law_bent (P := P) (w := w) (base := base) T
  refine T.t__law_table.calN sc__law_table (fun _ _ _ _ _ _ => by1 fun _ => rfl) (fun vs H Q E h => ?_) (fun f cdv A outer s H vs Q E hr h => ?_)
  · obtain ⟨_, _, dv, ⟨_, _, rfl, _⟩, _⟩ := h; exact dv.len
  obtain ⟨_, _, dv, ⟨ps, m, rfl, g, hnm, rfl⟩, k⟩ := h
  obtain ⟨_, rfl, hb⟩ := dv.one
  refine ⟨_, (pss_cons (ps_set (i := 1) sc__law_table.nd rfl (Or.inl rfl) (pe_cB C__law_bent (hr.mono (by decide)) pass01 (pa_name (pv 0) (pa_tuple (pe_tup (pa_tuple (pe_tup (pa_const pe_int (pa_const pe_int pa_nil))) (pa_tuple (pe_tup (pa_const pe_int (pa_const pe_int pa_nil))) pa_nil))) pa_nil)))) (pss_cons (ps_set (i := 2) sc__law_table.nd rfl (Or.inl rfl) (pe_cB C__law_bent (hr.mono (by decide)) pass01 (pa_name (pv 0) (pa_tuple (pe_tup (pa_tuple (pe_tup (pa_const pe_int (pa_const pe_int pa_nil))) (pa_tuple (pe_tup (pa_const pe_int (pa_const pe_int pa_nil))) pa_nil))) pa_nil)))) (pss_one (ps_ret (pe_tup (pa_sub (pe_ix ix_tup (pv 1) pe_int (fun _ _ => rfl)) (pa_sub (pe_ix ix_tup (pv 2) pe_int (fun _ _ => rfl)) (pa_sub (pe_ix ix_tup (pv 1) pe_int (fun _ _ => rfl)) (pa_sub (pe_ix ix_tup (pv 2) pe_int (fun _ _ => rfl)) pa_nil))))))))), ?_⟩
  refine ⟨_, rfl, (by show 2 ≤ sizeLine; decide), fun p1 hp1 => ⟨(by show 2 ≤ sizeLine; decide), fun p2 hp2 => ⟨(by show 2 ≤ sizeLine; decide), fun p3 hp3 => ?_⟩⟩⟩
  have u1 := same_new hp1 (.tup [.int 1, .int 1])
  have u2 := same_new hp2 (.tup [.int 0, .int 1])
  have u3 := same_new hp3 (.tup [.ref p1, .ref p2])
  have d3 : DV K (upd (upd (upd H p1 (.tup [.int 1, .int 1])) p2 (.tup [.int 0, .int 1])) p3 (.tup [.ref p1, .ref p2])) (.ref p3) (rayD e1) := DV.upd2 hp3 (fr11.keep u2) fr01
  have t3 := u1.trans (u2.trans u3)
  clear u1 u2 u3
  generalize upd (upd (upd H p1 (.tup [.int 1, .int 1])) p2 (.tup [.int 0, .int 1])) p3 (.tup [.ref p1, .ref p2]) = H3 at d3 t3 ⊢
  refine ⟨_, _, .cons (hb.keep t3) (.cons d3 .nil), ⟨ps, e1, 2, m, rfl, g, rb_e1, hnm, rfl⟩, fun v4 H4 s4 hv4 => ?_⟩
  have t4 := t3.trans s4
  refine ⟨_, rfl, (by show 2 ≤ sizeLine; decide), fun p4 hp4 => ⟨(by show 2 ≤ sizeLine; decide), fun p5 hp5 => ⟨(by show 2 ≤ sizeLine; decide), fun p6 hp6 => ?_⟩⟩⟩
  have u4 := same_new hp4 (.tup [.int 0, .int 1])
  have u5 := same_new hp5 (.tup [.int 1, .int 1])
  have u6 := same_new hp6 (.tup [.ref p4, .ref p5])
  have d6 : DV K (upd (upd (upd H4 p4 (.tup [.int 0, .int 1])) p5 (.tup [.int 1, .int 1])) p6 (.tup [.ref p4, .ref p5])) (.ref p6) (rayD e2) := DV.upd2 hp6 (fr01.keep u5) fr11
  have t6 := u4.trans (u5.trans u6)
  clear u4 u5 u6
  generalize upd (upd (upd H4 p4 (.tup [.int 0, .int 1])) p5 (.tup [.int 1, .int 1])) p6 (.tup [.ref p4, .ref p5]) = H6 at d6 t6 ⊢
  refine ⟨_, _, .cons (hb.keep (t4.trans t6)) (.cons d6 .nil), ⟨ps, e2, 2, m, rfl, g, rb_e2, hnm, rfl⟩, fun v7 H7 s7 hv7 => ?_⟩
  have t7 := t4.trans (t6.trans s7)
  obtain ⟨xa, x1, x2, rfl, hxa, hx1, hx2⟩ := DV.t2 (hv4.keep (t6.trans s7))
  obtain ⟨ya, y1, y2, rfl, hya, hy1, hy2⟩ := DV.t2 hv7
  refine ⟨_, rfl, xa, _, _, _, rfl, rfl, hxa, rfl, _, rfl, ya, _, _, _, rfl, rfl, hya, rfl, _, rfl, xa, _, _, _, rfl, rfl, hxa, rfl, _, rfl, ya, _, _, _, rfl, rfl, hya, rfl, (by show 4 ≤ sizeLine; decide), fun p hp => ?_⟩
  exact k _ _ (t7.trans (same_new hp _)) (DV.upd4 hp hx1 hy1 hx2 hy2)
end
end K65
namespace K65
open PySem L2 Lib Fr Op
seal PE PT PW PA PS PSs PG PGs PI PO PIfs
section
variable {P : Program} {w : World} {K : PySem.W.Frag} {mg : Str → Option Value} {base : Heap} {ad : Adr} {c : Bool}
theorem x_is_table (T : Txt K mg ad) : CalB P w K mg base true 4 "is_table" ["thing"] (spIsTX K) := by
  have C_less_by := c_less_by (P := P) (w := w) (base := base) T
  have C_product_of := c_product_of (P := P) (w := w) (base := base) T
  have C_is_ratio := c_is_ratio_any (P := P) (w := w) (base := base) T
  refine T.t_is_table.calN sc_is_table (fun _ _ _ _ _ _ => by1 fun _ => rfl) (fun vs H Q E h => ?_) (fun f cdv A outer s H vs Q E hr h => ?_)
  · obtain ⟨_, _, rfl, _⟩ := h; rfl
  obtain ⟨v, d, rfl, hx, h⟩ := h
  refine ⟨_, (pss_cons (ps_if (PW.pt (pw_or (pt_not (pt_val (pe_callB call_isiD rfl T.isinstance bt_isinstance (pa_name (pv 0) (pa_name (pe_bltn (v := .ty "tuple") rfl T.tuple bt_tuple rfl) pa_nil))))) (pw_or (pt_cmpR op_ne (pe_callB call_len_seq rfl T.len bt_len (pa_name (pv 0) pa_nil)) pe_int (nomark _)) (pw_or1 (pt_not (pt_val (pe_callB (call_all rfl) rfl T.all bt_all (pa_cons (pe_comp ["part"] [none] rfl (pi_tup (pv 0)) (fun _ _ _ _ _ => (pg_name (i := 0) (show List.Nodup [("part" : Str)] by decide) rfl (by first | exact Or.inl rfl | exact Or.inr rfl))) (fun _ _ _ _ _ => pifs_nil) (fun _ _ _ _ _ => (pe_cB C_is_ratio (hr.mono (by decide)) pass01 (pa_name (pv 0) pa_nil))) (cap_nil (by decide) (by decide)) (by decide) rfl (by decide) rfl (nocap rfl)) pa_nil)))))))) (pss_one (ps_ret pe_bl)) pss_nil) (pss_one (ps_ret (pe_cmpR (op_eqD hr.units) (pe_cB C_less_by (hr.mono (by decide)) pass01 (pa_call (pe_cB C_product_of (hr.mono (by decide)) pass01 (pa_sub (pe_ix ix_tup (pv 0) pe_int (fun _ _ => rfl)) (pa_sub (pe_ix ix_tup (pv 0) pe_int (fun _ _ => rfl)) pa_nil))) (pa_call (pe_cB C_product_of (hr.mono (by decide)) pass01 (pa_sub (pe_ix ix_tup (pv 0) pe_int (fun _ _ => rfl)) (pa_sub (pe_ix ix_tup (pv 0) pe_int (fun _ _ => rfl)) pa_nil))) pa_nil))) (pe_glob (v := .ref ad.ONE) rfl T.ex.m_ONE rfl) (nomark _))))), ?_⟩
  refine ⟨_, rfl, _, _, _, _, rfl, hx, isTup_b _, _, rfl, ?_⟩
  rcases h with ⟨t, n, rfl, tb, hn, k⟩ | ⟨no | ⟨ds, rfl, h4 | ⟨h4, hno⟩⟩, k⟩
  · refine iteF ?_
    obtain ⟨a, x1, x2, x3, x4, rfl, ha, h1, h2, h3, h4⟩ := DV.t4 hx
    have hall : DVs K H [x1, x2, x3, x4] [frD t.a, frD t.b, frD t.c, frD t.d] := .cons h1 (.cons h2 (.cons h3 (.cons h4 .nil)))
    refine ⟨_, rfl, a, _, rfl, .inr ha, rfl, _, rfl, iteF ?_⟩
    refine ⟨_, rfl, a, rfl, ⟨_, ha⟩, ?_⟩
    refine comp_tup0 (K := K) (a := a) (xs := [x1, x2, x3, x4]) (fun i σ ys H' => ∃ c0, σ = [c0] ∧ ys = List.replicate i (.bl true) ∧ H' = H) ⟨_, rfl, rfl, rfl⟩ ?_ ?_ ?_
    · rintro i σ ys H' hi ⟨c0, rfl, rfl, rfl⟩
      refine ⟨?_, ha⟩
      rw [List.length_replicate]
      exact Nat.le_of_lt (small1000 (by simp only [List.length_cons, List.length_nil] at hi; omega))
    · rintro i x σ ys H' hi ⟨c0, rfl, rfl, rfl⟩
      obtain ⟨d, hd, hdx⟩ := hall.get hi
      obtain ⟨q0, rfl⟩ := get_fr (es := [t.a, t.b, t.c, t.d]) hd
      refine ⟨_, rfl, _, frD q0, rfl, hdx, ?_⟩
      rw [ratD_fr]
      exact nx (lt_of_get hi) ⟨_, rfl, List.replicate_succ'.symm, rfl⟩
    · rintro σ ys H' p ⟨c0, rfl, rfl, rfl⟩ hp
      have u := same_new hp (.lst (List.replicate [x1, x2, x3, x4].length (.bl true)))
      refine ⟨p, [true, true, true, true], rfl, SqL.of upd_same, _, rfl, iteF ?_⟩
      refine ⟨_, rfl, a, _, _, _, rfl, rfl, ha.keep u, rfl, _, rfl, a, _, _, _, rfl, rfl, ha.keep u, rfl, ?_⟩
      refine ⟨_, _, .cons (h1.keep u) (.cons (h4.keep u) .nil), ⟨_, _, rfl, tb.a.sm (by omega), tb.d.sm (by omega), rfl⟩, fun v1 H1 s1 hv1 => ?_⟩
      have us := u.trans s1
      refine ⟨_, rfl, a, _, _, _, rfl, rfl, ha.keep us, rfl, _, rfl, a, _, _, _, rfl, rfl, ha.keep us, rfl, ?_⟩
      refine ⟨_, _, .cons (h2.keep us) (.cons (h3.keep us) .nil), ⟨_, _, rfl, tb.b.sm (by omega), tb.c.sm (by omega), rfl⟩, fun v2 H2 s2 hv2 => ?_⟩
      refine ⟨_, _, .cons (hv1.keep s2) (.cons hv2 .nil), ⟨_, _, rfl, (tb.a.mul tb.d).sm (by omega), (tb.b.mul tb.c).sm (by omega), rfl⟩, fun v3 H3 s3 hv3 => ?_⟩
      exact eq_frG hv3 (dO T H3) (k _ (us.trans (s2.trans s3)))
  · rw [no]
    exact iteT (iteT (k _ (Same.refl _)))
  · obtain ⟨a, xs, rfl, ha, hds⟩ := hx.tup_of
    refine iteF ⟨_, rfl, a, _, rfl, .inr ha, rfl, _, rfl, ?_⟩
    have e : decide (V.int ((xs.length : Nat) : Int) = V.int 4) = false := by
      rw [decI]
      exact decide_eq_false (by have := hds.len; omega)
    exact iteT' (by rw [e]; rfl) (iteT (k _ (Same.refl _)))
  · obtain ⟨a, xs, rfl, ha, hds⟩ := hx.tup_of
    have hl := hds.len
    refine iteF ⟨_, rfl, a, _, rfl, .inr ha, rfl, _, rfl, ?_⟩
    have e : decide (V.int ((xs.length : Nat) : Int) = V.int 4) = true := by
      rw [decI]
      exact decide_eq_true (by omega)
    refine iteF' (by rw [e]; rfl) ⟨_, rfl, a, rfl, ⟨_, ha⟩, ?_⟩
    refine comp_tup0 (K := K) (a := a) (xs := xs) (fun i σ ys H' => ∃ c0, σ = [c0] ∧ ys = (ds.take i).map (fun d => .bl (ratD d)) ∧ H' = H) ⟨_, rfl, rfl, rfl⟩ ?_ ?_ ?_
    · rintro i σ ys H' hi ⟨c0, rfl, rfl, rfl⟩
      refine ⟨?_, ha⟩
      rw [List.length_map, List.length_take]
      exact Nat.le_of_lt (small1000 (by omega))
    · rintro i x σ ys H' hi ⟨c0, rfl, rfl, rfl⟩
      obtain ⟨d, hd, hdx⟩ := hds.get hi
      refine ⟨_, rfl, _, d, rfl, hdx, nx (lt_of_get hi) ⟨_, rfl, ?_, rfl⟩⟩
      rw [List.take_add_one, hd, List.map_append]
      rfl
    · rintro σ ys H' p ⟨c0, rfl, rfl, rfl⟩ hp
      rw [hl, List.take_length]
      refine ⟨p, ds.map ratD, rfl, SqL.of (by rw [List.map_map]; exact upd_same), _, rfl, ?_⟩
      have e2 : (ds.map ratD).all id = false := by rw [List.all_map]; exact hno
      exact iteT' (by rw [e2]; rfl) (k _ (same_new hp _))
end
end K65
namespace K65
open PySem L2 Lib Fr Op
seal PE PT PW PA PS PSs PG PGs PI PO PIfs
section
variable {P : Program} {w : World} {K : PySem.W.Frag} {mg : Str → Option Value} {base : Heap} {ad : Adr} {c : Bool}
theorem k_NoBench (T : Txt K mg ad) : XMk P w K mg base 1 "NoBench" ad.NoBench := by
  refine T.ex.j_NoBench.xmk sc_NoBench_init (fun _ _ _ _ _ _ => by2 fun _ _ => rfl) (fun fI O f cdv A outer s H vs Q E hr h => ?_)
  obtain ⟨e, v, rfl, he, q⟩ := h
  refine ⟨_, (pss_cons (ps_binit O T.ex.m_BenchError (pa_name (pv 0) (pa_name (pv 1) pa_nil))) (pss_one (ps_setat O (pv 0) (pv 1)))), ?_⟩
  exact ⟨_, rfl, _, rfl, e, v, none, rfl, he, _, rfl, _, rfl, e, rfl, he, fun dx n1 n2 => q dx n1 n2⟩
end
end K65
namespace K65
open PySem L2 Lib Fr Op
seal PE PT PW PA PS PSs PG PGs PI PO PIfs
section
variable {P : Program} {w : World} {K : PySem.W.Frag} {mg : Str → Option Value} {base : Heap} {ad : Adr} {c : Bool}
theorem c_is_name (T : Txt K mg ad) : CalB P w K mg base true 1 "is_name" ["thing"] (spName K) := by
  refine T.t_is_name.calN sc_is_name (fun _ _ _ _ _ _ => by1 fun _ => rfl) (fun vs H Q E h => ?_) (fun f cdv A outer s H vs Q E hr h => ?_)
  · obtain ⟨_, _, rfl, _⟩ := h; rfl
  obtain ⟨v, d, rfl, hv, ok, q⟩ := h
  refine ⟨_, (pss_cons (ps_if (PW.pt (pw_or (pt_not (pt_val (pe_callB call_isiD rfl T.isinstance bt_isinstance (pa_name (pv 0) (pa_name (pe_bltn (v := .ty "str") rfl T.str bt_str rfl) pa_nil))))) (pw_or1 (pt_not (pt_chain op_le op_le pe_int (pe_callB call_len_str rfl T.len bt_len (pa_name (pv 0) pa_nil)) (pe_glob (v := .int 8) rfl T.ex.m_MOST_LETTERS ⟨_, rfl⟩)))))) (pss_one (ps_ret pe_bl)) pss_nil) (pss_one (ps_ret (pe_callB (call_all rfl) rfl T.all bt_all (pa_cons (pe_compIn rfl (pv 0) T.ex.m_LETTERS (by decide) (by decide) rfl (by decide) rfl rfl rfl rfl) pa_nil))))), ?_⟩
  refine ⟨_, rfl, _, _, _, _, rfl, hv, isStr_b d, _, rfl, ?_⟩
  cases ht : isStrD d with
  | false =>
    have q0 := q _ (Same.refl _)
    rw [nameD_no ht] at q0
    exact iteT (iteT q0)
  | true =>
    obtain ⟨z, rfl⟩ := isStr_of ht
    obtain rfl := DV.str_of hv
    have hz := ok z rfl
    refine iteF ⟨_, rfl, z, rfl, hz, _, _, rfl, rfl, _, rfl, ?_⟩
    by_cases h1 : 1 ≤ z.length
    · refine iteT' (decide_eq_true (by omega)) ⟨_, _, rfl, rfl, _, rfl, ?_⟩
      by_cases h2 : z.length ≤ 8
      · refine iteF' (by rw [decide_eq_true (by omega)]; rfl) ?_
        refine ⟨_, rfl, z, rfl, hz, fun p hp => ?_⟩
        refine ⟨p, (PyProof.Rows.signs z).map inLet, rfl, SqL.of (by rw [List.map_map]; exact upd_same), ?_⟩
        have q0 := q _ (same_new hp (.lst ((PyProof.Rows.signs z).map fun x => V.bl (inLet x))))
        have e : nameD (.str z) = ((PyProof.Rows.signs z).map inLet).all id := by
          show ((decide (1 ≤ z.length) && decide (z.length ≤ 8)) && _) = _
          rw [decide_eq_true h1, decide_eq_true h2, List.all_map]; rfl
        rw [← e]
        exact q0
      · have q0 := q _ (Same.refl _)
        have e : nameD (.str z) = false := by
          show ((decide (1 ≤ z.length) && decide (z.length ≤ 8)) && _) = _
          rw [decide_eq_false h2, Bool.and_false, Bool.false_and]
        rw [e] at q0
        exact iteT' (by rw [decide_eq_false (by omega)]; rfl) q0
    · have q0 := q _ (Same.refl _)
      have e : nameD (.str z) = false := by
        show ((decide (1 ≤ z.length) && decide (z.length ≤ 8)) && _) = _
        rw [decide_eq_false h1, Bool.false_and, Bool.false_and]
      rw [e] at q0
      exact iteF' (decide_eq_false (by omega)) ⟨_, rfl, iteT q0⟩
theorem c_is_kind (T : Txt K mg ad) : CalB P w K mg base true 3 "is_kind" ["thing"] (spKind K) := by
  have C_is_name := c_is_name (P := P) (w := w) (base := base) T
  have C_is_ratio := c_is_ratio_any (P := P) (w := w) (base := base) T
  refine T.t_is_kind.calN sc_is_kind (fun _ _ _ _ _ _ => by1 fun _ => rfl) (fun vs H Q E h => ?_) (fun f cdv A outer s H vs Q E hr h => ?_)
  · obtain ⟨_, _, rfl, _⟩ := h; rfl
  obtain ⟨v, d, rfl, hv, ok, q⟩ := h
  refine ⟨_, (pss_cons (ps_if (PW.pt (pw_or (pt_not (pt_val (pe_callB call_isiD rfl T.isinstance bt_isinstance (pa_name (pv 0) (pa_name (pe_bltn (v := .ty "tuple") rfl T.tuple bt_tuple rfl) pa_nil))))) (pw_or1 (pt_cmpR op_ne (pe_callB call_len_seq rfl T.len bt_len (pa_name (pv 0) pa_nil)) pe_int (nomark _))))) (pss_one (ps_ret pe_bl)) pss_nil) (pss_one (ps_ret (pe_and (pe_cB C_is_name (hr.mono (by decide)) pass01 (pa_sub (pe_ix ix_tup (pv 0) pe_int (fun _ _ => rfl)) pa_nil)) (pe_and (pe_cB C_is_ratio (hr.mono (by decide)) pass01 (pa_sub (pe_ix ix_tup (pv 0) pe_int (fun _ _ => rfl)) pa_nil)) (pe_one (pe_cmpR (op_neD hr.units) (pe_ix ix_tup (pv 0) pe_int (fun _ _ => rfl)) (pe_glob (v := .ref ad.NOUGHT) rfl T.ex.m_NOUGHT rfl) (nomark _)))))))), ?_⟩
  refine ⟨_, rfl, _, _, _, _, rfl, hv, isTup_b d, _, rfl, ?_⟩
  cases ht : isTupD d with
  | false =>
    have q0 := q _ (Same.refl _)
    rw [kindB_no ht] at q0
    exact iteT (iteT q0)
  | true =>
    obtain ⟨ds, rfl⟩ := isTup_of ht
    obtain ⟨a, xs, rfl, ha, hds⟩ := hv.tup_of
    have hl := hds.len
    refine iteF ⟨_, rfl, a, _, rfl, .inr ha, rfl, _, rfl, ?_⟩
    by_cases h2 : ds.length = 2
    · have e : decide (V.int ((xs.length : Nat) : Int) = V.int 2) = true := by
        rw [decI]
        exact decide_eq_true (by omega)
      refine iteF' (by rw [e]; rfl) ?_
      rcases ds with _ | ⟨d1, _ | ⟨d2, _ | ⟨d3, dr⟩⟩⟩
      · exact absurd h2 (by simp)
      · exact absurd h2 (by simp)
      · obtain ⟨x1, x2, rfl, g1, g2⟩ := hds.two
        refine ⟨_, rfl, a, _, _, _, rfl, rfl, ha, atI0, _, d1, rfl, g1, ok d1 d2 rfl, fun H1 s1 => ⟨_, rfl, ?_⟩⟩
        have q1 := q H1 s1
        have e0 : kindB (.tuple [d1, d2]) = (nameD d1 && (ratD d2 && nzD d2)) := rfl
        rw [e0] at q1
        cases hn : nameD d1 with
        | false =>
          rw [hn, Bool.false_and] at q1
          exact iteF q1
        | true =>
          rw [hn, Bool.true_and] at q1
          refine iteT ⟨_, rfl, a, _, _, _, rfl, rfl, ha.keep s1, rfl, _, d2, rfl, g2.keep s1, _, rfl, ?_⟩
          cases hr2 : ratD d2 with
          | false =>
            rw [hr2, Bool.false_and] at q1
            exact iteF q1
          | true =>
            obtain ⟨q2, rfl⟩ := ratD_of hr2
            rw [hr2, Bool.true_and, nzD_fr] at q1
            refine iteT ⟨_, rfl, a, _, _, _, rfl, rfl, ha.keep s1, rfl, ?_⟩
            exact ne_frG (g2.keep s1) (dN T H1) q1
      · simp only [List.length_cons] at h2
        omega
    · have q0 := q _ (Same.refl _)
      rw [kindB_len h2] at q0
      have e : decide (V.int ((xs.length : Nat) : Int) = V.int 2) = false := by
        rw [decI]
        exact decide_eq_false (by omega)
      exact iteT' (by rw [e]; rfl) q0
theorem c_is_stock (T : Txt K mg ad) : CalB P w K mg base true 4 "is_stock" ["thing"] (spStock K) := by
  have C_is_kind := c_is_kind (P := P) (w := w) (base := base) T
  refine T.t_is_stock.calN sc_is_stock (fun _ _ _ _ _ _ => by1 fun _ => rfl) (fun vs H Q E h => ?_) (fun f cdv A outer s H vs Q E hr h => ?_)
  · obtain ⟨_, _, rfl, _⟩ := h; rfl
  obtain ⟨v, d, rfl, hv, ok, q⟩ := h
  refine ⟨_, (pss_cons (ps_if (PW.pt (pw_or (pt_not (pt_val (pe_callB call_isiD rfl T.isinstance bt_isinstance (pa_name (pv 0) (pa_name (pe_bltn (v := .ty "list") rfl T.list bt_list rfl) pa_nil))))) (pw_or1 (pt_not (pt_chain op_le op_le pe_int (pe_callB call_len_seq rfl T.len bt_len (pa_name (pv 0) pa_nil)) (pe_glob (v := .int 4) rfl T.ex.m_MOST_KINDS ⟨_, rfl⟩)))))) (pss_one (ps_ret pe_bl)) pss_nil) (pss_cons (ps_if (pt_not (pt_val (pe_callB (call_all rfl) rfl T.all bt_all (pa_cons (pe_comp ["kind"] [none] rfl (pi_list (pv 0)) (fun _ _ _ _ _ => (pg_name (i := 0) (show List.Nodup [("kind" : Str)] by decide) rfl (by first | exact Or.inl rfl | exact Or.inr rfl))) (fun _ _ _ _ _ => pifs_nil) (fun _ _ _ _ _ => (pe_cB C_is_kind (hr.mono (by decide)) pass01 (pa_name (pv 0) pa_nil))) (cap_nil (by decide) (by decide)) (by decide) rfl (by decide) rfl (nocap rfl)) pa_nil)))) (pss_one (ps_ret pe_bl)) pss_nil) (pss_one (ps_ret (pe_cmpR op_eq (pe_callB call_lenS rfl T.len bt_len (pa_call (pe_callTy (call_setS rfl) rfl T.set bt_set (pa_cons (pe_comp ["kind"] [none] rfl (pi_list (pv 0)) (fun _ _ _ _ _ => (pg_name (i := 0) (show List.Nodup [("kind" : Str)] by decide) rfl (by first | exact Or.inl rfl | exact Or.inr rfl))) (fun _ _ _ _ _ => pifs_nil) (fun _ _ _ _ _ => (pe_ix (ix_tupK (K := K)) (pv 0) pe_int (fun _ _ => rfl))) (cap_nil (by decide) (by decide)) (by decide) rfl (by decide) rfl (nocap rfl)) pa_nil)) pa_nil)) (pe_callB call_len_seq rfl T.len bt_len (pa_name (pv 0) pa_nil)) (nomark _)))))), ?_⟩
  refine ⟨_, rfl, _, _, _, _, rfl, hv, isLst_b d, _, rfl, ?_⟩
  cases ht : isLstD d with
  | false =>
    have q0 := q _ (Same.refl _)
    rw [stockB_no ht] at q0
    exact iteT (iteT q0)
  | true =>
    obtain ⟨ds, rfl⟩ := isLst_of ht
    have hok := ok ds rfl
    obtain ⟨a, xs, rfl, ha, hds⟩ := hv.lst_of
    have hl := hds.len
    have e0 : stockB (.list ds) = ((decide (1 ≤ ds.length) && decide (ds.length ≤ 4)) && (ds.all kindB && decide ((metS (fun i => (ds.map kname).getD i "") ds.length).length = ds.length))) := rfl
    rw [e0] at q
    refine iteF ⟨_, rfl, a, _, rfl, .inl ha, _, _, rfl, rfl, _, rfl, ?_⟩
    by_cases h1 : 1 ≤ ds.length
    · refine iteT' (decide_eq_true (by omega)) ⟨_, _, rfl, rfl, _, rfl, ?_⟩
      by_cases h2 : ds.length ≤ 4
      · rw [decide_eq_true h1, decide_eq_true h2, Bool.true_and, Bool.true_and] at q
        refine iteF' (by rw [decide_eq_true (by omega)]; rfl) ?_
        refine ⟨_, rfl, a, rfl, ⟨_, ha⟩, ?_⟩
        refine comp_list0 (K := K) (a := a) (xs := xs) (fun i σ ys H' => ∃ c0, σ = [c0] ∧ ys = (ds.take i).map (fun d => .bl (kindB d)) ∧ Same H H') ⟨_, rfl, rfl, Same.refl _⟩ ?_ ?_ ?_
        · rintro i σ ys H' hi ⟨c0, rfl, rfl, s1⟩
          refine ⟨?_, ha.keep s1⟩
          rw [List.length_map, List.length_take]
          exact Nat.le_of_lt (small1000 (by omega))
        · rintro i x σ ys H' hi ⟨c0, rfl, rfl, s1⟩
          obtain ⟨d, hd, hdx⟩ := hds.get hi
          refine ⟨_, rfl, _, d, rfl, hdx.keep s1, hok d (List.mem_of_getElem? hd), fun H2 s2 => nx (lt_of_get hi) ⟨_, rfl, ?_, s1.trans s2⟩⟩
          rw [List.take_add_one, hd, List.map_append]
          rfl
        · rintro σ ys H' p ⟨c0, rfl, rfl, s1⟩ hp
          rw [hl, List.take_length]
          have u := s1.trans (same_new hp (.lst (ds.map fun d => V.bl (kindB d))))
          refine ⟨p, ds.map kindB, rfl, SqL.of (by rw [List.map_map]; exact upd_same), _, rfl, ?_⟩
          have e2 : (ds.map kindB).all id = ds.all kindB := by rw [List.all_map]; rfl
          rw [e2]
          generalize upd H' p (.lst (ds.map fun d => V.bl (kindB d))) = H1 at u ⊢
          cases hall : ds.all kindB with
          | false =>
            have q0 := q _ u
            rw [hall, Bool.false_and] at q0
            exact iteT q0
          | true =>
            rw [hall, Bool.true_and] at q
            refine iteF ⟨_, rfl, a, rfl, ⟨_, ha.keep u⟩, ?_⟩
            refine comp_list0 (K := K) (a := a) (xs := xs) (fun i σ ys H' => ∃ c0, σ = [c0] ∧ ys = ((ds.take i).map kname).map V.str ∧ Same H1 H') ⟨_, rfl, rfl, Same.refl _⟩ ?_ ?_ ?_
            · rintro i σ ys H' hi ⟨c0, rfl, rfl, s1⟩
              refine ⟨?_, (ha.keep u).keep s1⟩
              rw [List.length_map, List.length_map, List.length_take]
              exact Nat.le_of_lt (small1000 (by omega))
            · rintro i x σ ys H' hi ⟨c0, rfl, rfl, s1⟩
              obtain ⟨d, hd, hdx⟩ := hds.get hi
              obtain ⟨k, rfl, hn, hz⟩ := kindB_of (List.all_eq_true.mp hall d (List.mem_of_getElem? hd))
              obtain ⟨b, x1, x2, rfl, hb, g1, g2⟩ := DV.t2 (hdx.keep (u.trans s1))
              obtain rfl := DV.str_of g1
              refine ⟨_, rfl, b, _, _, _, rfl, rfl, hb, atI0, nx (lt_of_get hi) ⟨_, rfl, ?_, s1⟩⟩
              rw [List.take_add_one, hd, List.map_append, List.map_append]
              rfl
            · rintro σ ys H' p2 ⟨c0, rfl, rfl, s1⟩ hp2
              rw [hl, List.take_length]
              have u2 := s1.trans (same_new hp2 (.lst ((ds.map kname).map V.str)))
              have l1 : (ds.map kname).length < 1000 := by rw [List.length_map]; omega
              refine ⟨p2, ds.map kname, rfl, SqL.of upd_same, l1, fun p3 hp3 => ?_⟩
              have u3 := same_new hp3 (setO P w p3 (metS (fun i => (ds.map kname).getD i "") (ds.map kname).length).length)
              have l2 := metS_le (fun i => (ds.map kname).getD i "") (ds.map kname).length
              refine ⟨p3, _, rfl, upd_same, by omega, _, rfl, a, _, rfl, .inl ((ha.keep u).keep (u2.trans u3)), rfl, ?_⟩
              have q0 := q _ (u.trans (u2.trans u3))
              rw [List.length_map] at q0 ⊢
              rw [decI, hl]
              have e4 : decide ((((metS (fun i => (ds.map kname).getD i "") ds.length).length : Nat) : Int) = ((ds.length : Nat) : Int)) = decide ((metS (fun i => (ds.map kname).getD i "") ds.length).length = ds.length) := decide_eq_decide.mpr ⟨fun h => by omega, fun h => by omega⟩
              rw [e4]
              exact q0
      · have q0 := q _ (Same.refl _)
        rw [decide_eq_false h2, Bool.and_false, Bool.false_and] at q0
        exact iteT' (by rw [decide_eq_false (by omega)]; rfl) q0
    · have q0 := q _ (Same.refl _)
      rw [decide_eq_false h1, Bool.false_and, Bool.false_and] at q0
      exact iteF' (decide_eq_false (by omega)) ⟨_, rfl, iteT q0⟩
theorem k_Shop (T : Txt K mg ad) : MkC P w K mg base 5 "Shop" ad.Shop ["self", "stock"] (spShop K ad.Shop) := by
  have C_is_stock := c_is_stock (P := P) (w := w) (base := base) T
  refine T.ex.i_Shop.mkc sc_Shop_init (fun _ _ _ _ _ _ => by2 fun _ _ => rfl) (fun vs H Q E h => ?_) (fun f cdv A outer s H vs Q E hr h => ?_)
  · obtain ⟨a, dx, x, ds, rfl, _⟩ := h; rfl
  obtain ⟨a, dx, y, ds, rfl, ha, hy, good, ok, q⟩ := h
  refine ⟨_, (pss_cons (ps_if (pt_not (pt_val (pe_cB C_is_stock (hr.mono (by decide)) pass01 (pa_name (pv 1) pa_nil)))) (pss_one ps_never) pss_nil) (pss_one (ps_fldB (pv 0) (pe_callTy call_list_of rfl T.list bt_list (pa_name (pv 1) pa_nil))))), ?_⟩
  refine ⟨_, rfl, y, _, rfl, hy, ok, fun H1 s1 => ⟨_, rfl, ?_⟩⟩
  rw [good]
  obtain ⟨b, xs, rfl, hb, hds⟩ := (hy.keep s1).lst_of
  refine iteF ⟨_, rfl, b, xs, rfl, .inl hb, fun l hl => ?_⟩
  have u := same_new hl (.lst xs)
  have ha1 : upd H1 l (.lst xs) a = some (.ins ad.Shop dx []) := u _ _ (s1 _ _ ha)
  refine ⟨_, rfl, a, ad.Shop, dx, [], rfl, ha1, T.ex.l_Shop, T.ex.n_Shop_stock, by decide, ?_⟩
  exact q xs l _ (s1.trans u) (s1.free hl) upd_same (hds.keep u)
end
end K65
namespace K65
open PySem L2 Lib Fr Op
seal PE PT PW PA PS PSs PG PGs PI PO PIfs
section
variable {P : Program} {w : World} {K : PySem.W.Frag} {mg : Str → Option Value} {base : Heap} {ad : Adr} {c : Bool}
theorem c_look_at_gaps (T : Txt K mg ad) : CalB P w K mg base true 3 "look_at_gaps" ["gaps"] (spGaps K ad.NoBench) := by
  have C_is_ratio := c_is_ratio_any (P := P) (w := w) (base := base) T
  have M_NoBench := k_NoBench (P := P) (w := w) (base := base) T
  refine T.t_look_at_gaps.calB sc_look_at_gaps (fun _ _ _ _ _ _ => by1 fun _ => rfl) (fun vs H Q E h => ?_) (fun f cdv A outer s H vs Q E hr h => ?_)
  · obtain ⟨_, _, rfl, _⟩ := h; rfl
  obtain ⟨v, d, rfl, hv, q, r⟩ := h
  refine ⟨_, (pss_one (ps_if (PW.pt (pw_or (pt_not (pt_val (pe_callB call_isiD rfl T.isinstance bt_isinstance (pa_name (pv 0) (pa_name (pe_bltn (v := .ty "list") rfl T.list bt_list rfl) pa_nil))))) (pw_or (pt_not (pt_chain op_le op_le pe_int (pe_callB call_len_seq rfl T.len bt_len (pa_name (pv 0) pa_nil)) (pe_glob (v := .int 5) rfl T.ex.m_MOST_GAPS ⟨_, rfl⟩))) (pw_or1 (pt_not (pt_val (pe_callB (call_all rfl) rfl T.all bt_all (pa_cons (pe_comp ["gap"] [none] rfl (pi_list (pv 0)) (fun _ _ _ _ _ => (pg_name (i := 0) (show List.Nodup [("gap" : Str)] by decide) rfl (by first | exact Or.inl rfl | exact Or.inr rfl))) (fun _ _ _ _ _ => pifs_nil) (fun _ _ _ _ _ => (pe_cB C_is_ratio (hr.mono (by decide)) pass01 (pa_name (pv 0) pa_nil))) (cap_nil (by decide) (by decide)) (by decide) rfl (by decide) rfl (nocap rfl)) pa_nil)))))))) (pss_one (ps_raiseI bodyB rfl M_NoBench (hr.mono (by decide)) (pa_const pe_non pa_nil))) pss_nil)), ?_⟩
  refine ⟨_, rfl, _, _, _, _, rfl, hv, isLst_b d, _, rfl, ?_⟩
  cases ht : isLstD d with
  | false =>
    have r := r (gapsB_no ht)
    exact iteT (iteT ⟨_, rfl, fun dx hn => r _ dx (same_new hn _) upd_same⟩)
  | true =>
    obtain ⟨ds, rfl⟩ := isLst_of ht
    obtain ⟨a, xs, rfl, ha, hds⟩ := hv.lst_of
    have hl := hds.len
    have e0 : gapsB (.list ds) = ((decide (1 ≤ ds.length) && decide (ds.length ≤ 5)) && ds.all ratD) := rfl
    rw [e0] at q r
    refine iteF ⟨_, rfl, a, _, rfl, .inl ha, _, _, rfl, rfl, _, rfl, ?_⟩
    by_cases h1 : 1 ≤ ds.length
    · refine iteT' (decide_eq_true (by omega)) ⟨_, _, rfl, rfl, _, rfl, ?_⟩
      by_cases h2 : ds.length ≤ 5
      · rw [decide_eq_true h1, decide_eq_true h2, Bool.true_and, Bool.true_and] at q r
        refine iteF' (by rw [decide_eq_true (by omega)]; rfl) ?_
        refine ⟨_, rfl, a, rfl, ⟨_, ha⟩, ?_⟩
        refine comp_list0 (K := K) (a := a) (xs := xs) (fun i σ ys H' => ∃ c0, σ = [c0] ∧ ys = (ds.take i).map (fun d => .bl (ratD d)) ∧ H' = H) ⟨_, rfl, rfl, rfl⟩ ?_ ?_ ?_
        · rintro i σ ys H' hi ⟨c0, rfl, rfl, rfl⟩
          refine ⟨?_, ha⟩
          rw [List.length_map, List.length_take]
          exact Nat.le_of_lt (small1000 (by omega))
        · rintro i x σ ys H' hi ⟨c0, rfl, rfl, rfl⟩
          obtain ⟨d, hd, hdx⟩ := hds.get hi
          refine ⟨_, rfl, _, d, rfl, hdx, nx (lt_of_get hi) ⟨_, rfl, ?_, rfl⟩⟩
          rw [List.take_add_one, hd, List.map_append]
          rfl
        · rintro σ ys H' p ⟨c0, rfl, rfl, rfl⟩ hp
          rw [hl, List.take_length]
          have u := same_new hp (.lst (ds.map fun d => V.bl (ratD d)))
          refine ⟨p, ds.map ratD, rfl, SqL.of (by rw [List.map_map]; exact upd_same), _, rfl, ?_⟩
          have e2 : (ds.map ratD).all id = ds.all ratD := by rw [List.all_map]; rfl
          rw [e2]
          cases hall : ds.all ratD with
          | false =>
            have r := r hall
            exact iteT ⟨_, rfl, fun dx hn => r _ dx (u.trans (same_new hn _)) upd_same⟩
          | true => exact iteF (q hall _ u)
      · have r := r (by rw [decide_eq_false h2, Bool.and_false, Bool.false_and])
        exact iteT' (by rw [decide_eq_false (by omega)]; rfl) (iteT ⟨_, rfl, fun dx hn => r _ dx (same_new hn _) upd_same⟩)
    · have r := r (by rw [decide_eq_false h1, Bool.false_and, Bool.false_and])
      exact iteF' (decide_eq_false (by omega)) ⟨_, rfl, iteT (iteT ⟨_, rfl, fun dx hn => r _ dx (same_new hn _) upd_same⟩)⟩
theorem c_is_wish (T : Txt K mg ad) : CalB P w K mg base true 5 "is_wish" ["thing"] (spWish K) := by
  have C_is_ratio := c_is_ratio_any (P := P) (w := w) (base := base) T
  have C_is_table := x_is_table (P := P) (w := w) (base := base) T
  refine T.t_is_wish.calN sc_is_wish (fun _ _ _ _ _ _ => by1 fun _ => rfl) (fun vs H Q E h => ?_) (fun f cdv A outer s H vs Q E hr h => ?_)
  · obtain ⟨_, _, rfl, _⟩ := h; rfl
  obtain ⟨v, d, rfl, hv, q⟩ := h
  refine ⟨_, (pss_cons (ps_if (PW.pt (pw_or (pt_not (pt_val (pe_callB call_isiD rfl T.isinstance bt_isinstance (pa_name (pv 0) (pa_name (pe_bltn (v := .ty "tuple") rfl T.tuple bt_tuple rfl) pa_nil))))) (pw_or (pt_cmpR op_lt (pe_callB call_len_seq rfl T.len bt_len (pa_name (pv 0) pa_nil)) pe_int (nomark _)) (pw_or1 (pt_not (pt_val (pe_callB call_isiD rfl T.isinstance bt_isinstance (pa_sub (pe_ix ix_tup (pv 0) pe_int (fun _ _ => rfl)) (pa_name (pe_bltn (v := .ty "str") rfl T.str bt_str rfl) pa_nil))))))))) (pss_one (ps_ret pe_bl)) pss_nil) (pss_cons (ps_if (pt_cmpR op_eq (pe_ix ix_tup (pv 0) pe_int (fun _ _ => rfl)) (pe_glob (v := .str "table") rfl T.ex.m_TABLE ⟨_, rfl⟩) (nomark _)) (pss_one (ps_ret (pe_and (pe_cmpR op_eq (pe_callB call_len_seq rfl T.len bt_len (pa_name (pv 0) pa_nil)) pe_int (nomark _)) (pe_one (pe_cB C_is_table (hr.mono (by decide)) pass01 (pa_sub (pe_ix ix_tup (pv 0) pe_int (fun _ _ => rfl)) pa_nil)))))) pss_nil) (pss_cons (ps_if (pt_cmpR op_eq (pe_ix ix_tup (pv 0) pe_int (fun _ _ => rfl)) (pe_glob (v := .str "image") rfl T.ex.m_IMAGE ⟨_, rfl⟩) (nomark _)) (pss_one (ps_ret (pe_and (pe_cmpR op_eq (pe_callB call_len_seq rfl T.len bt_len (pa_name (pv 0) pa_nil)) pe_int (nomark _)) (pe_one (pe_cB C_is_ratio (hr.mono (by decide)) pass01 (pa_sub (pe_ix ix_tup (pv 0) pe_int (fun _ _ => rfl)) pa_nil)))))) pss_nil) (pss_one (ps_ret (pe_and (pe_cmpR op_eq (pe_ix ix_tup (pv 0) pe_int (fun _ _ => rfl)) (pe_glob (v := .str "grown") rfl T.ex.m_GROWN ⟨_, rfl⟩) (nomark _)) (pe_and (pe_cmpR op_eq (pe_callB call_len_seq rfl T.len bt_len (pa_name (pv 0) pa_nil)) pe_int (nomark _)) (pe_and (pe_cB C_is_ratio (hr.mono (by decide)) pass01 (pa_sub (pe_ix ix_tup (pv 0) pe_int (fun _ _ => rfl)) pa_nil)) (pe_one (pe_cB C_is_ratio (hr.mono (by decide)) pass01 (pa_sub (pe_ix ix_tup (pv 0) pe_int (fun _ _ => rfl)) pa_nil))))))))))), ?_⟩
  refine ⟨_, rfl, _, _, _, _, rfl, hv, isTup_b d, _, rfl, ?_⟩
  cases ht : isTupD d with
  | false =>
    refine iteT (iteT ?_)
    rcases q with ⟨g, _⟩ | ⟨_, q⟩
    · cases g <;> cases ht
    · exact q _ (Same.refl _)
  | true =>
    obtain ⟨ds, rfl⟩ := isTup_of ht
    obtain ⟨a, xs, rfl, ha, hds⟩ := hv.tup_of
    refine iteF ⟨_, rfl, a, _, rfl, .inr ha, _, _, rfl, rfl, _, rfl, ?_⟩
    rcases ds with _ | ⟨d0, _ | ⟨d1, dr⟩⟩
    · obtain rfl := hds.nil_of
      rcases q with ⟨g, _⟩ | ⟨_, q⟩
      · cases g
      · exact iteT' (by decide) (iteT (q _ (Same.refl _)))
    · obtain ⟨x0, xs, rfl, h0, hds⟩ := hds.cons_of
      obtain rfl := hds.nil_of
      rcases q with ⟨g, _⟩ | ⟨_, q⟩
      · cases g
      · exact iteT' (decide_eq_true (by show ((1 : Nat) : Int) < 2; decide)) (iteT (q _ (Same.refl _)))
    · obtain ⟨x0, xs, rfl, h0, hds⟩ := hds.cons_of
      obtain ⟨x1, xr, rfl, h1, hr'⟩ := hds.cons_of
      have hl := hr'.len
      refine iteF' (decide_eq_false (by simp only [List.length_cons]; omega)) ?_
      refine ⟨_, rfl, a, _, _, _, rfl, rfl, ha, atI0, _, _, _, _, rfl, h0, isStr_b d0, _, rfl, ?_⟩
      cases hs : isStrD d0 with
      | false =>
        refine iteT ?_
        rcases q with ⟨g, _⟩ | ⟨_, q⟩
        · cases g <;> cases hs
        · exact q _ (Same.refl _)
      | true =>
        obtain ⟨z, rfl⟩ := isStr_of hs
        obtain rfl := h0.str_of
        refine iteF ⟨_, rfl, a, _, _, _, rfl, rfl, ha, atI0, rfl, _, rfl, ?_⟩
        by_cases z1 : z = "table"
        · subst z1
          refine iteT' (by rw [decS]; exact decide_eq_true rfl) ⟨_, rfl, a, _, rfl, .inr ha, rfl, _, rfl, ?_⟩
          by_cases n2 : dr = []
          · subst n2
            obtain rfl := hr'.nil_of
            refine iteT' (by rw [decI]; exact decide_eq_true rfl) ⟨_, rfl, a, _, _, _, rfl, rfl, ha, rfl, _, d1, rfl, h1, ?_⟩
            rcases q with ⟨g, q⟩ | ⟨b, q⟩
            · cases g with
              | table t n tb hn det =>
                refine .inl ⟨t, n, rfl, tb, hn, fun H1 s1 => ?_⟩
                rw [decide_eq_true det]
                exact q _ s1
            · cases b with
              | short _ h => exact absurd h (by simp)
              | no _ h => cases h
              | word _ _ h => cases h
              | tabN _ h => exact absurd rfl h
              | tab _ h =>
                rcases h with no | ⟨t, n, rfl, tb, hn, det⟩
                · exact .inr ⟨no, q⟩
                · refine .inl ⟨t, n, rfl, tb, hn, fun H1 s1 => ?_⟩
                  rw [decide_eq_false det]
                  exact q _ s1
              | other _ _ h => exact absurd rfl h
          · have ne : decide (V.int (((V.str "table" :: x1 :: xr).length : Nat) : Int) = V.int 2) = false := by
              rw [decI]
              have : dr.length ≠ 0 := fun h => n2 (List.length_eq_zero_iff.mp h)
              exact decide_eq_false (by simp only [List.length_cons]; omega)
            refine iteF' ne ?_
            rcases q with ⟨g, _⟩ | ⟨_, q⟩
            · cases g; exact absurd rfl n2
            · exact q _ (Same.refl _)
        · refine iteF' (by rw [decS]; exact decide_eq_false z1) ⟨_, rfl, a, _, _, _, rfl, rfl, ha, atI0, rfl, _, rfl, ?_⟩
          by_cases z2 : z = "image"
          · subst z2
            refine iteT' (by rw [decS]; exact decide_eq_true rfl) ⟨_, rfl, a, _, rfl, .inr ha, rfl, _, rfl, ?_⟩
            by_cases n2 : dr = []
            · subst n2
              obtain rfl := hr'.nil_of
              refine iteT' (by rw [decI]; exact decide_eq_true rfl) ⟨_, rfl, a, _, _, _, rfl, rfl, ha, rfl, _, d1, rfl, h1, ?_⟩
              rcases q with ⟨g, q⟩ | ⟨b, q⟩
              · cases g with
                | image p =>
                  rw [ratD_fr]
                  exact q _ (Same.refl _)
              · cases b with
                | short _ h => exact absurd h (by simp)
                | no _ h => cases h
                | word _ _ h => cases h
                | imgN _ h => exact absurd rfl h
                | img _ h =>
                  rw [h]
                  exact q _ (Same.refl _)
                | other _ _ h1 h2 => exact absurd rfl h2
            · have ne : decide (V.int (((V.str "image" :: x1 :: xr).length : Nat) : Int) = V.int 2) = false := by
                rw [decI]
                have : dr.length ≠ 0 := fun h => n2 (List.length_eq_zero_iff.mp h)
                exact decide_eq_false (by simp only [List.length_cons]; omega)
              refine iteF' ne ?_
              rcases q with ⟨g, _⟩ | ⟨_, q⟩
              · cases g; exact absurd rfl n2
              · exact q _ (Same.refl _)
          · refine iteF' (by rw [decS]; exact decide_eq_false z2) ⟨_, rfl, a, _, _, _, rfl, rfl, ha, atI0, rfl, _, rfl, ?_⟩
            by_cases z3 : z = "grown"
            · subst z3
              refine iteT' (by rw [decS]; exact decide_eq_true rfl) ⟨_, rfl, a, _, rfl, .inr ha, rfl, _, rfl, ?_⟩
              by_cases n3 : dr.length = 1
              · rcases dr with _ | ⟨d2, _ | ⟨d3, dr⟩⟩
                · cases n3
                · obtain ⟨x2, rfl, h2⟩ := hr'.one
                  refine iteT' (by rw [decI]; exact decide_eq_true rfl) ⟨_, rfl, a, _, _, _, rfl, rfl, ha, rfl, _, d1, rfl, h1, _, rfl, ?_⟩
                  have fin : ∀ b : Bool, (ratD d1 && ratD d2) = b → Q (.bl b) H := by
                    intro b e
                    rcases q with ⟨g, q⟩ | ⟨bd, q⟩
                    · cases g with
                      | grown p g =>
                        rw [ratD_fr, ratD_fr] at e
                        rw [← e]
                        exact q _ (Same.refl _)
                    · cases bd with
                      | short _ h => exact absurd h (by simp)
                      | no _ h => cases h
                      | word _ _ h => cases h
                      | grwN _ h => exact absurd rfl h
                      | grw _ _ h =>
                        rw [← e, h]
                        exact q _ (Same.refl _)
                      | other _ _ h1 h2 h3 => exact absurd rfl h3
                  cases e1 : ratD d1 with
                  | false => exact iteF (fin _ (by rw [e1, Bool.false_and]))
                  | true => exact iteT ⟨_, rfl, a, _, _, _, rfl, rfl, ha, rfl, _, d2, rfl, h2, fin _ (by rw [e1, Bool.true_and])⟩
                · simp at n3
              · have ne : decide (V.int (((V.str "grown" :: x1 :: xr).length : Nat) : Int) = V.int 3) = false := by
                  rw [decI]
                  exact decide_eq_false (by simp only [List.length_cons]; omega)
                refine iteF' ne ?_
                rcases q with ⟨g, _⟩ | ⟨_, q⟩
                · cases g; exact absurd rfl n3
                · exact q _ (Same.refl _)
            · refine iteF' (by rw [decS]; exact decide_eq_false z3) ?_
              rcases q with ⟨g, _⟩ | ⟨_, q⟩
              · cases g
                · exact absurd rfl z1
                · exact absurd rfl z2
                · exact absurd rfl z3
              · exact q _ (Same.refl _)
end
end K65
namespace K65
open PySem L2 Lib Fr Op
seal PE PT PW PA PS PSs PG PGs PI PO PIfs
section
variable {P : Program} {w : World} {K : PySem.W.Frag} {mg : Str → Option Value} {base : Heap} {ad : Adr} {c : Bool}
theorem mc_pieces_for (T : Txt K mg ad) : MC P w K mg base 1 ad.Shop "pieces_for" ["self", "name"] (spPieces K ad.Shop) := by
  refine T.ex.q_Shop_pieces_for.mc sc_Shop_pieces_for (fun _ _ _ _ _ _ => by2 fun _ _ => rfl) (fun vs H Q E h => ?_) (fun f cdv A outer s H vs Q E hr h => ?_)
  · obtain ⟨_, _, _, rfl, _⟩ := h; rfl
  obtain ⟨x, st, c, rfl, hsh, h4, q⟩ := h
  obtain ⟨a, dx, ls, ks, rfl, ha, hls, hks⟩ := hsh
  have hkl : ks.length = st.length := by have := hks.len; rw [List.length_map] at this; exact this
  refine ⟨_, (pss_one (ps_ret (pe_compX ["kind", "name"] [none, some 1] rfl (pi_list (pe_fldB (pv 0))) (fun _ _ _ _ _ _ => (pg_name (i := 0) (show List.Nodup [("kind" : Str), ("name" : Str)] by decide) rfl (by first | exact Or.inl rfl | exact Or.inr rfl))) (fun _ _ _ _ _ _ => (pifs_one (pt_cmpR op_eq (pe_ix (ix_tupK (K := K)) (pv 0) pe_int (fun _ _ => rfl)) (pv 1) (nomark _)))) (fun _ _ _ _ _ _ => (pe_tup (pa_name (pe_glob (v := .str "glass") rfl T.ex.m_GLASS ⟨_, rfl⟩) (pa_sub (pe_ix (ix_tupK (K := K)) (pv 0) pe_int (fun _ _ => rfl)) pa_nil)))) (cap_def (hcell := by decide) (hf := (show ∀ y : Str × NameKind, y ∈ _ → y.2 = NameKind.free → (defScope s_Shop_pieces_for).names.lookup y.1 = some NameKind.cell by decide))) (by decide) rfl (by decide) rfl (fun i j h => by
      rcases i with _ | _ | i
      · simp at h
      · simp at h; subst h; exact ⟨_, rfl, rfl, rfl, rfl⟩
      · simp at h)))), ?_⟩
  refine ⟨_, rfl, a, _, dx, _, _, rfl, ha, T.ex.l_Shop, T.ex.n_Shop_stock, rfl, ls, rfl, ⟨_, SqL.of hls⟩, ?_⟩
  refine comp_list (K := K) (a := ls) (xs := ks) (fun i σ ys H' => ∃ c0, σ = [c0, some (.str c)] ∧ Same H H' ∧ DVs K H' ys ((glassOf (st.take i) c).map pcD)) ⟨_, rfl, Same.refl _, .nil⟩ ?_ ?_ ?_
  · rintro i σ ys H' hi ⟨c0, rfl, s1, hys⟩
    refine ⟨?_, SqL.of (s1 _ _ hls)⟩
    have h1 := hys.len
    have h2 := glass_le (st.take i) c
    rw [List.length_map] at h1
    rw [List.length_take] at h2
    exact Nat.le_of_lt (small1000 (by omega))
  · rintro i z σ ys H' hi ⟨c0, rfl, s1, hys⟩
    obtain ⟨d, hd, hdx⟩ := hks.get hi
    rw [List.getElem?_map] at hd
    cases e : st[i]? with
    | none => rw [e] at hd; cases hd
    | some k =>
      rw [e] at hd
      cases hd
      obtain ⟨b, x1, x2, rfl, hb, g1, g2⟩ := DV.t2 (show DV K H' z (.tuple [.str k.1, frD k.2]) from hdx.keep s1)
      obtain rfl := DV.str_of g1
      have eg := glass_take (c := c) e
      refine ⟨_, rfl, b, _, _, _, rfl, rfl, hb, atI0, _, rfl, rfl, _, rfl, ?_⟩
      by_cases ek : k.1 = c
      · rw [if_pos (decide_eq_true ek)] at eg
        refine iteT' (by rw [decS]; exact decide_eq_true ek) ⟨_, rfl, b, _, _, _, rfl, rfl, hb, rfl, (by show 2 ≤ sizeLine; decide), fun p hp => nx (lt_of_get hi) ⟨_, rfl, s1.trans (same_new hp _), ?_⟩⟩
        rw [eg, List.map_append]
        exact (hys.keep (same_new hp _)).append (.cons (DV.upd2 hp (.str _) g2) .nil)
      · rw [if_neg (by rw [decide_eq_true_eq]; exact ek), List.append_nil] at eg
        refine iteF' (by rw [decS]; exact decide_eq_false ek) (nx (lt_of_get hi) ⟨_, rfl, s1, ?_⟩)
        rw [eg]
        exact hys
  · rintro σ ys H' p ⟨c0, rfl, s1, hys⟩ hp
    rw [hkl, List.take_length] at hys
    exact q p ys _ (s1.trans (same_new hp _)) (s1.free hp) upd_same (hys.keep (same_new hp _))
end
end K65
namespace K65
open PySem L2 Lib Fr Op
seal PE PT PW PA PS PSs PG PGs PI PO PIfs
section
variable {P : Program} {w : World} {K : PySem.W.Frag} {mg : Str → Option Value} {base : Heap} {ad : Adr} {c : Bool}
theorem c_does (T : Txt K mg ad) : CalB P w K mg base true 7 "does" ["table", "wish"] (spDoes K) := by
  have C_image_of := c_image_of (P := P) (w := w) (base := base) T
  have C_growth_of := c_growth_of (P := P) (w := w) (base := base) T
  refine T.t_does.calN sc_does (fun _ _ _ _ _ _ => by2 fun _ _ => rfl) (fun vs H Q E h => ?_) (fun f cdv A outer s H vs Q E hr h => ?_)
  · obtain ⟨_, _, _, _, _, rfl, _⟩ := h; rfl
  obtain ⟨x, y, t, wi, n, rfl, hx, hy, tb, det, wb, hn, q⟩ := h
  refine ⟨_, (pss_cons (ps_if (pt_cmpR op_eq (pe_ix ix_tup (pv 1) pe_int (fun _ _ => rfl)) (pe_glob (v := .str "table") rfl T.ex.m_TABLE ⟨_, rfl⟩) (nomark _)) (pss_one (ps_ret (pe_cmpR (op_eqD hr.units) (pv 0) (pe_ix ix_tup (pv 1) pe_int (fun _ _ => rfl)) (nomark _)))) pss_nil) (pss_cons (ps_if (pt_cmpR (op_neD hr.units) (pe_cB C_image_of (hr.mono (by decide)) pass01 (pa_name (pv 0) (pa_sub (pe_ix ix_tup (pv 1) pe_int (fun _ _ => rfl)) pa_nil))) (pe_glob (v := .ref ad.NOUGHT) rfl T.ex.m_NOUGHT rfl) (nomark _)) (pss_one (ps_ret pe_bl)) pss_nil) (pss_one (ps_ret (pe_or (pe_cmpR op_eq (pe_ix ix_tup (pv 1) pe_int (fun _ _ => rfl)) (pe_glob (v := .str "image") rfl T.ex.m_IMAGE ⟨_, rfl⟩) (nomark _)) (pe_one (pe_cmpR (op_eqD hr.units) (pe_cB C_growth_of (hr.mono (by decide)) pass01 (pa_name (pv 0) (pa_sub (pe_ix ix_tup (pv 1) pe_int (fun _ _ => rfl)) pa_nil))) (pe_ix ix_tup (pv 1) pe_int (fun _ _ => rfl)) (nomark _)))))))), ?_⟩
  cases wi with
  | table u =>
    obtain ⟨b, x0, x1, rfl, hb, g0, g1⟩ := DV.t2 (show DV K H y (.tuple [.str "table", tabD u]) from hy)
    obtain rfl := DV.str_of g0
    refine ⟨_, rfl, b, _, _, _, rfl, rfl, hb, atI0, rfl, _, rfl, iteT' (by rw [decS]; exact decide_eq_true rfl) ?_⟩
    refine ⟨_, rfl, _, rfl, b, _, _, _, rfl, rfl, hb, rfl, ?_⟩
    exact eq_tabD hx g1 (q _ (Same.refl _))
  | image p =>
    obtain ⟨b, x0, x1, rfl, hb, g0, g1⟩ := DV.t2 (show DV K H y (.tuple [.str "image", frD p]) from hy)
    obtain rfl := DV.str_of g0
    refine ⟨_, rfl, b, _, _, _, rfl, rfl, hb, atI0, rfl, _, rfl, iteF' (by rw [decS]; decide) ?_⟩
    refine ⟨_, rfl, _, rfl, b, _, _, _, rfl, rfl, hb, rfl, _, _, .cons hx (.cons g1 .nil), ⟨t, p, n, rfl, tb, det, wb, hn, rfl⟩, fun v1 H1 s1 hv1 => ?_⟩
    refine ne_ofG hv1 (dN T H1) ⟨_, rfl, ?_⟩
    have q1 := q _ s1
    have e0 : doesB t (.image p) = decide (img t p = some 0) := rfl
    rw [e0] at q1
    by_cases hi : img t p = some 0
    · rw [decide_eq_true hi] at q1
      refine iteF' (by rw [decide_eq_true hi]; rfl) ?_
      exact ⟨_, rfl, b, _, _, _, rfl, rfl, hb.keep s1, atI0, rfl, _, rfl, iteT' (by rw [decS]; exact decide_eq_true rfl) q1⟩
    · rw [decide_eq_false hi] at q1
      exact iteT' (by rw [decide_eq_false hi]; rfl) q1
  | grown p g =>
    obtain ⟨b, x0, x1, x2, rfl, hb, g0, g1, g2⟩ := DV.t3 (show DV K H y (.tuple [.str "grown", frD p, frD g]) from hy)
    obtain rfl := DV.str_of g0
    refine ⟨_, rfl, b, _, _, _, rfl, rfl, hb, atI0, rfl, _, rfl, iteF' (by rw [decS]; decide) ?_⟩
    refine ⟨_, rfl, _, rfl, b, _, _, _, rfl, rfl, hb, rfl, _, _, .cons hx (.cons g1 .nil), ⟨t, p, n, rfl, tb, det, wb, hn, rfl⟩, fun v1 H1 s1 hv1 => ?_⟩
    refine ne_ofG hv1 (dN T H1) ⟨_, rfl, ?_⟩
    have e0 : doesB t (.grown p g) = (decide (img t p = some 0) && decide (grw t p = some g)) := rfl
    rw [e0] at q
    by_cases hi : img t p = some 0
    · rw [decide_eq_true hi, Bool.true_and] at q
      refine iteF' (by rw [decide_eq_true hi]; rfl) ?_
      refine ⟨_, rfl, b, _, _, _, rfl, rfl, hb.keep s1, atI0, rfl, _, rfl, iteF' (by rw [decS]; decide) ?_⟩
      refine ⟨_, rfl, _, rfl, b, _, _, _, rfl, rfl, hb.keep s1, rfl, _, _, .cons (hx.keep s1) (.cons (g1.keep s1) .nil), ⟨t, p, n, rfl, tb, det, wb, hn, rfl⟩, fun v2 H2 s2 hv2 => ?_⟩
      refine ⟨_, rfl, b, _, _, _, rfl, rfl, hb.keep (s1.trans s2), rfl, ?_⟩
      exact eq_of hv2 (g2.keep (s1.trans s2)) (q _ (s1.trans s2))
    · rw [decide_eq_false hi, Bool.false_and] at q
      exact iteT' (by rw [decide_eq_false hi]; rfl) (q _ s1)
theorem c_glasses_in (T : Txt K mg ad) : CalB P w K mg base true 1 "glasses_in" ["choice"] (spGlasses K) := by
  refine T.t_glasses_in.calN sc_glasses_in (fun _ _ _ _ _ _ => by1 fun _ => rfl) (fun vs H Q E h => ?_) (fun f cdv A outer s H vs Q E hr h => ?_)
  · obtain ⟨_, _, rfl, _⟩ := h; rfl
  obtain ⟨l, zs, rfl, hl, q⟩ := h
  refine ⟨_, (pss_one (ps_ret (pe_op op_sub (pe_callB call_len_seq rfl T.len bt_len (pa_name (pv 0) pa_nil)) (pe_bm PySem.F.plainAttrs_list PySem.F.slot_list_count PySem.F.type_list_count mt_count (pv 0) (pa_name (pe_glob (v := .str "") rfl T.ex.m_NO_GLASS ⟨_, rfl⟩) pa_nil))))), ?_⟩
  refine ⟨_, rfl, l, _, rfl, .inl hl, _, rfl, .inl ⟨rfl, _, hl⟩, l, zs, "", rfl, rfl, hl, _, _, rfl, rfl, ?_⟩
  rw [List.length_map]
  exact q
end
end K65
namespace K65
open PySem L2 Lib Fr Op
seal PE PT PW PA PS PSs PG PGs PI PO PIfs
section
variable {P : Program} {w : World} {K : PySem.W.Frag} {mg : Str → Option Value} {base : Heap} {ad : Adr} {c : Bool}
theorem mc_tables_for (T : Txt K mg ad) : MC P w K mg base 6 ad.Shop "tables_for" ["self", "gaps"] (spTabs K ad.Shop) := by
  have C_table_of := c_table_of (P := P) (w := w) (base := base) T
  have C_joined := c_joined (P := P) (w := w) (base := base) T
  refine T.ex.q_Shop_tables_for.mc sc_Shop_tables_for (fun _ _ _ _ _ _ => by2 fun _ _ => rfl) (fun vs H Q E h => ?_) (fun f cdv A outer s H vs Q E hr h => ?_)
  · obtain ⟨_, _, _, _, _, rfl, _⟩ := h; rfl
  obtain ⟨x, y, st, g0, gs, rfl, hsh, hst4, hsb, hy, h4, hgb, k⟩ := h
  refine ⟨_, (pss_cons (ps_set (i := 2) sc_Shop_tables_for.nd rfl (Or.inl rfl) (pe_op op_cat (pe_lst (pa_name (pe_glob (v := .str "") rfl T.ex.m_NO_GLASS ⟨_, rfl⟩) pa_nil)) (pe_comp ["kind"] [none] rfl (pi_list (pe_fldB (pv 0))) (fun _ _ _ _ _ => (pg_name (i := 0) (show List.Nodup [("kind" : Str)] by decide) rfl (by first | exact Or.inl rfl | exact Or.inr rfl))) (fun _ _ _ _ _ => pifs_nil) (fun _ _ _ _ _ => (pe_ix (ix_tupK (K := K)) (pv 0) pe_int (fun _ _ => rfl))) (cap_nil (by decide) (by decide)) (by decide) rfl (by decide) rfl (nocap rfl)))) (pss_cons (ps_set (i := 3) sc_Shop_tables_for.nd rfl (Or.inl rfl) (pe_lst (pa_tuple (pe_tup (pa_list (pe_lst pa_nil) (pa_call (pe_cB C_table_of (hr.mono (by decide)) pass01 (pa_list (pe_lst (pa_tuple (pe_tup (pa_name (pe_glob (v := .str "gap") rfl T.ex.m_GAP ⟨_, rfl⟩) (pa_sub (pe_ix ix_list (pv 1) pe_int (fun _ _ => rfl)) pa_nil))) pa_nil)) pa_nil)) pa_nil))) pa_nil))) (pss_cons (ps_for PassesOwn.never rfl (pi_list (pe_slice sl_list (pv 1) (po_some pe_int) po_none)) (pg_name (i := 4) sc_Shop_tables_for.nd rfl (by first | exact Or.inl rfl | exact Or.inr rfl)) (pss_cons (ps_compX (i := 5) sc_Shop_tables_for.nd rfl (by first | exact Or.inl rfl | exact Or.inr rfl) ["name", "self", "gap"] [none, some 0, some 4] rfl (pi_list (pv 2)) (fun _ _ _ _ _ _ => (pg_name (i := 0) (show List.Nodup [("name" : Str), ("self" : Str), ("gap" : Str)] by decide) rfl (by first | exact Or.inl rfl | exact Or.inr rfl))) (fun _ _ _ _ _ _ => pifs_nil) (fun _ _ _ _ _ _ => (pe_tup (pa_name (pv 0) (pa_call (pe_cB C_table_of (hr.mono (by decide)) pass01 (pa_bin (pe_op op_cat (pe_mBK (P := P) (w := w) (K := K) (mg := mg) (base := base) (k := 1) (pv 1) (hr.mono (by decide)) (pa_name (pv 0) pa_nil)) (pe_lst (pa_tuple (pe_tup (pa_name (pe_glob (v := .str "gap") rfl T.ex.m_GAP ⟨_, rfl⟩) (pa_name (pv 2) pa_nil))) pa_nil))) pa_nil)) pa_nil)))) (cap_def (hcell := by decide) (hf := (show ∀ y : Str × NameKind, y ∈ _ → y.2 = NameKind.free → (defScope s_Shop_tables_for).names.lookup y.1 = some NameKind.cell by decide))) (by decide) rfl (by decide) rfl (fun i j h => by
      rcases i with _ | _ | _ | i
      · simp at h
      · simp at h; subst h; exact ⟨_, rfl, rfl, rfl, rfl⟩
      · simp at h; subst h; exact ⟨_, rfl, rfl, rfl, rfl⟩
      · simp at h)) (pss_cons (ps_set (i := 6) sc_Shop_tables_for.nd rfl (Or.inl rfl) (pe_lst pa_nil)) (pss_cons (ps_for PassesOwn.never rfl (pi_list (pv 3)) (pg_tup (n := 2) rfl (pgs_cons (pg_name (i := 7) sc_Shop_tables_for.nd rfl (by first | exact Or.inl rfl | exact Or.inr rfl)) (pgs_cons (pg_name (i := 8) sc_Shop_tables_for.nd rfl (by first | exact Or.inl rfl | exact Or.inr rfl)) pgs_nil))) (pss_one (ps_for PassesOwn.never rfl (pi_list (pv 5)) (pg_tup (n := 2) rfl (pgs_cons (pg_name (i := 9) sc_Shop_tables_for.nd rfl (by first | exact Or.inl rfl | exact Or.inr rfl)) (pgs_cons (pg_name (i := 10) sc_Shop_tables_for.nd rfl (by first | exact Or.inl rfl | exact Or.inr rfl)) pgs_nil))) (pss_one (ps_expr (pe_bm PySem.F.plainAttrs_list PySem.F.slot_list_append PySem.F.type_list_append mt_append (pv 6) (pa_tuple (pe_tup (pa_bin (pe_op op_cat (pv 7) (pe_lst (pa_name (pv 9) pa_nil))) (pa_call (pe_cB C_joined (hr.mono (by decide)) pass01 (pa_name (pv 8) (pa_name (pv 10) pa_nil))) pa_nil))) pa_nil))))))) (pss_one (ps_set (i := 3) sc_Shop_tables_for.nd rfl (Or.inl rfl) (pv 6))))))) (pss_one (ps_ret (pv 3)))))), ?_⟩
  have hsh0 := hsh
  obtain ⟨a, dx, ls, ks, rfl, ha, hls, hks⟩ := hsh
  obtain ⟨b, gvs, rfl, hb, hgs⟩ := hy.lst_of
  have hgs : DVs K H gvs (frD g0 :: gs.map frD) := hgs
  obtain ⟨g, gr, rfl, hg, hgr⟩ := hgs.cons_of
  have hkl : ks.length = st.length := by have := hks.len; rw [List.length_map] at this; exact this
  refine ⟨(by show 1 ≤ sizeLine; decide), fun p1 hp1 => ?_⟩
  have u1 := same_new hp1 (.lst [.str ""])
  have m1 : upd H p1 (.lst [.str ""]) p1 = some (.lst [.str ""]) := upd_same
  generalize upd H p1 (.lst [.str ""]) = H1 at u1 m1 ⊢
  refine ⟨_, rfl, a, _, dx, _, _, rfl, u1 _ _ ha, T.ex.l_Shop, T.ex.n_Shop_stock, rfl, ls, rfl, ⟨_, SqL.of (u1 _ _ hls)⟩, ?_⟩
  refine comp_list0 (K := K) (a := ls) (xs := ks) (fun i σ ys H' => ∃ c0, σ = [c0] ∧ ys = ((st.take i).map (·.1)).map V.str ∧ Same H1 H') ⟨_, rfl, rfl, Same.refl _⟩ ?_ ?_ ?_
  · rintro i σ ys H' hi ⟨c0, rfl, rfl, s1⟩
    refine ⟨?_, SqL.of (s1 _ _ (u1 _ _ hls))⟩
    rw [List.length_map, List.length_map, List.length_take]
    exact Nat.le_of_lt (small1000 (by omega))
  · rintro i z σ ys H' hi ⟨c0, rfl, rfl, s1⟩
    obtain ⟨d, hd, hdx⟩ := hks.get hi
    rw [List.getElem?_map] at hd
    cases e : st[i]? with
    | none => rw [e] at hd; cases hd
    | some k =>
      rw [e] at hd
      cases hd
      obtain ⟨b, x1, x2, rfl, hb, g1, g2⟩ := DV.t2 (show DV K H' z (.tuple [.str k.1, frD k.2]) from hdx.keep (u1.trans s1))
      obtain rfl := DV.str_of g1
      refine ⟨_, rfl, b, _, _, _, rfl, rfl, hb, atI0, nx (lt_of_get hi) ⟨_, rfl, ?_, s1⟩⟩
      rw [List.take_add_one, e, List.map_append, List.map_append]
      rfl
  rintro σ ys H' p2 ⟨c0, rfl, rfl, s1⟩ hp2
  have e0 : st.take ks.length = st := by rw [hkl, List.take_length]
  rw [e0]
  have u2 := (u1.trans s1).trans (same_new hp2 (.lst ((st.map (·.1)).map V.str)))
  have m2 : upd H' p2 (.lst ((st.map (·.1)).map V.str)) p2 = some (.lst ((st.map (·.1)).map V.str)) := upd_same
  have m1 := (s1.trans (same_new hp2 (.lst ((st.map (·.1)).map V.str)))) _ _ m1
  generalize upd H' p2 (.lst ((st.map (·.1)).map V.str)) = H2 at u2 m1 m2 ⊢
  have lz : 1 + ((st.map (·.1)).map V.str).length ≤ sizeLine := by
    rw [List.length_map, List.length_map]
    exact Nat.le_of_lt (small1000 (by omega))
  refine ⟨p1, p2, _, _, rfl, rfl, m1, m2, (by simpa using lz), fun p3 hp3 => ?_⟩
  have u3 := u2.trans (same_new hp3 (.lst ([.str ""] ++ (st.map (·.1)).map V.str)))
  have m3 : upd H2 p3 (.lst ([.str ""] ++ (st.map (·.1)).map V.str)) p3 = some (.lst ((nms st).map V.str)) := upd_same
  generalize upd H2 p3 (.lst ([.str ""] ++ (st.map (·.1)).map V.str)) = H3 at u3 m3 ⊢
  refine ⟨(by show 0 ≤ sizeLine; decide), fun q1 hq1 => ?_⟩
  have u4 := u3.trans (same_new hq1 (.lst []))
  have m3 := (same_new hq1 (.lst [])) _ _ m3
  have m4 : upd H3 q1 (.lst []) q1 = some (.lst []) := upd_same
  have n1 := u3.free hq1
  generalize upd H3 q1 (.lst []) = H4 at u4 m3 m4 ⊢
  refine ⟨_, rfl, b, _, _, _, rfl, rfl, hb.keep u4, atI0, (by show 2 ≤ sizeLine; decide), fun q2 hq2 => ?_⟩
  have w5 := same_new hq2 (.tup [.str "gap", g])
  have d5 : DV K (upd H4 q2 (.tup [.str "gap", g])) (.ref q2) (pcD (.gap g0)) := .tup (SqT.of upd_same) (.cons (.str _) (.cons (hg.keep (u4.trans w5)) .nil))
  generalize upd H4 q2 (.tup [.str "gap", g]) = H5 at w5 d5 ⊢
  refine ⟨(by show 1 ≤ sizeLine; decide), fun q3 hq3 => ?_⟩
  have w6 := same_new hq3 (.lst [.ref q2])
  have d6 : DV K (upd H5 q3 (.lst [.ref q2])) (.ref q3) (benchD [.gap g0]) := .lst (SqL.of upd_same) (.cons (d5.keep w6) .nil)
  generalize upd H5 q3 (.lst [.ref q2]) = H6 at w6 d6 ⊢
  have bq : Bd 7 g0 := hgb g0 List.mem_cons_self
  have gd : Good 7 [.gap g0] := ⟨by show 1 ≤ 60; decide, fun p hp => by rw [List.mem_singleton.mp hp]; exact trivial, fun p hp => by rw [List.mem_singleton.mp hp]; exact bq⟩
  refine ⟨_, _, .cons d6 .nil, ⟨[.gap g0], 7, rfl, gd, by show 2 + 1 * (7 + 1) + 7 ≤ 3900; decide, rfl⟩, fun tv H7 w7 htv => ?_⟩
  have w57 := w5.trans (w6.trans w7)
  have m7 := w57 _ _ m4
  have m3 := w57 _ _ m3
  have u7 := u4.trans w57
  refine ⟨(by show 2 ≤ sizeLine; decide), fun q4 hq4 => ?_⟩
  have w8 := same_new hq4 (.tup [.ref q1, tv])
  have ch : ChNs K (fun l => H l = none) (upd H7 q4 (.tup [.ref q1, tv])) [.ref q4] [([], tabOf [.gap g0])] := .cons ⟨q4, q1, tv, rfl, upd_same, w8 _ _ m7, n1, htv.keep w8⟩ .nil
  have m3 := w8 _ _ m3
  generalize upd H7 q4 (.tup [.ref q1, tv]) = H8 at w8 m3 ch ⊢
  refine ⟨(by show 1 ≤ sizeLine; decide), fun q5 hq5 => ?_⟩
  have w9 := same_new hq5 (.lst [.ref q4])
  have m9 : upd H8 q5 (.lst [.ref q4]) q5 = some (.lst [.ref q4]) := upd_same
  have ch := ch.keep w9
  have m3 := w9 _ _ m3
  have u9 := u7.trans (w8.trans w9)
  generalize upd H8 q5 (.lst [.ref q4]) = H9 at m9 m3 ch u9 ⊢
  refine ⟨_, rfl, _, rfl, b, _, rfl, hb.keep u9, fun q6 hq6 => ⟨q6, rfl, ⟨_, SqL.of upd_same⟩, ?_⟩⟩
  have w10 := same_new hq6 (.lst (cutV (g :: gr) (some 1) none))
  have m10 : upd H9 q6 (.lst (cutV (g :: gr) (some 1) none)) q6 = some (.lst gr) := by rw [upd_same, show (1 : Int) = ((1 : Nat) : Int) from rfl, cut_drop]; rfl
  have m9 := w10 _ _ m9
  have m3 := w10 _ _ m3
  have ch := ch.keep w10
  have u10 := u9.trans w10
  generalize upd H9 q6 (.lst (cutV (g :: gr) (some 1) none)) = H10 at m10 m9 m3 ch u10 ⊢
  have hgl : gr.length = gs.length := by have := hgr.len; rw [List.length_map] at this; exact this
  refine for_list (K := K) (a := q6) (xs := gr) (fun i σ H' => ∃ (fo : Addr) (zs : List V) (c4 c5 c6 c7 c8 c9 c10 : Option V), σ = [some (.ref a), some (.ref b), some (.ref p3), some (.ref fo), c4, c5, c6, c7, c8, c9, c10] ∧ Same H10 H' ∧ H' fo = some (.lst zs) ∧ ChNs K (fun l => H l = none) H' zs (ctsOf st g0 (gs.take i))) ⟨q5, _, _, _, _, _, _, _, _, rfl, Same.refl _, m9, by rw [List.take_zero]; exact ch⟩ ?_ ?_ ?_
  · rintro i σ H' hi ⟨fo, zs, c4, c5, c6, c7, c8, c9, c10, rfl, s', _⟩
    exact SqL.of (s' _ _ m10)
  · rintro i gv σ H' hi ⟨fo, zs, c4, c5, c6, c7, c8, c9, c10, rfl, s', hfo, chs⟩
    obtain ⟨d, hd, hgv⟩ := hgr.get hi
    rw [List.getElem?_map] at hd
    cases eg : gs[i]? with
    | none => rw [eg] at hd; cases hd
    | some gq =>
    rw [eg] at hd
    cases hd
    have hgb' : Bd 7 gq := hgb gq (List.mem_cons_of_mem _ (List.mem_of_getElem? eg))
    have t' := u10.trans s'
    have nl : (nms st).length ≤ 5 := by unfold nms; rw [List.length_cons, List.length_map]; omega
    refine ⟨_, rfl, p3, rfl, ⟨_, SqL.of (s' _ _ m3)⟩, ?_⟩
    refine comp_list (K := K) (a := p3) (xs := (nms st).map V.str) (fun j σ ys Hc => ∃ c0, σ = [c0, some (.ref a), some gv] ∧ Same H' Hc ∧ DVs K Hc ys (((nms st).take j).map (stD st gq))) ⟨_, rfl, Same.refl _, .nil⟩ ?_ ?_ ?_
    · rintro j σ ys Hc hj ⟨c0, rfl, sc, hys⟩
      refine ⟨?_, SqL.of ((s'.trans sc) _ _ m3)⟩
      have h1 := hys.len
      rw [List.length_map, List.length_take] at h1
      exact Nat.le_of_lt (small1000 (by omega))
    · rintro j zv σ ys Hc hj ⟨c0, rfl, sc, hys⟩
      rw [List.getElem?_map] at hj
      cases ez : (nms st)[j]? with
      | none => rw [ez] at hj; cases hj
      | some z =>
      rw [ez] at hj
      cases hj
      have tc := t'.trans sc
      refine ⟨_, rfl, _, rfl, a, _, dx, _, _, _, rfl, tc _ _ ha, rfl, mc_pieces_for T, _, rfl, .ref a, st, z, rfl, hsh0.keep tc, hst4, fun pp xs Hd sd np hpp hxs => ?_⟩
      have td := tc.trans sd
      refine ⟨_, rfl, (by show 2 ≤ sizeLine; decide), fun r2 hr2 => ?_⟩
      have v5 := same_new hr2 (.tup [.str "gap", gv])
      have d5 : DV K (upd Hd r2 (.tup [.str "gap", gv])) (.ref r2) (pcD (.gap gq)) := .tup (SqT.of upd_same) (.cons (.str _) (.cons (hgv.keep (td.trans v5)) .nil))
      generalize upd Hd r2 (.tup [.str "gap", gv]) = He at v5 d5 ⊢
      refine ⟨(by show 1 ≤ sizeLine; decide), fun r3 hr3 => ?_⟩
      have v6 := same_new hr3 (.lst [.ref r2])
      have m6 : upd He r3 (.lst [.ref r2]) r3 = some (.lst [.ref r2]) := upd_same
      have d5 := d5.keep v6
      generalize upd He r3 (.lst [.ref r2]) = Hf at v6 m6 d5 ⊢
      have v56 := v5.trans v6
      have hxl : xs.length ≤ 4 := by
        have h1 := hxs.len
        have h2 := glass_le st z
        rw [List.length_map] at h1
        omega
      refine ⟨pp, r3, _, _, rfl, rfl, v56 _ _ hpp, m6, Nat.le_of_lt (small1000 (by simp only [List.length_cons, List.length_nil]; omega)), fun r4 hr4 => ?_⟩
      have v7 := same_new hr4 (.lst (xs ++ [.ref r2]))
      have d7 : DV K (upd Hf r4 (.lst (xs ++ [.ref r2]))) (.ref r4) (benchD (stepB st (z, gq))) := by
        refine .lst (SqL.of upd_same) ?_
        unfold stepB
        rw [List.map_append]
        exact (hxs.keep (v56.trans v7)).append (.cons (d5.keep v7) .nil)
      generalize upd Hf r4 (.lst (xs ++ [.ref r2])) = Hg at v7 d7 ⊢
      have sl : (stepB st (z, gq)).length ≤ 5 := by
        have h2 := glass_le st z
        show (glassOf st z ++ [Pc.gap gq]).length ≤ 5
        rw [List.length_append, List.length_singleton]
        omega
      have gd : Good 7 (stepB st (z, gq)) := ⟨by omega, step_ok st _, step_bd hsb hgb'⟩
      refine ⟨_, _, .cons d7 .nil, ⟨_, 7, rfl, gd, by omega, rfl⟩, fun uv Hh vh huv => ?_⟩
      refine ⟨(by show 2 ≤ sizeLine; decide), fun r5 hr5 => nx (by rw [List.length_map]; exact lt_of_get ez) ⟨_, rfl, ?_, ?_⟩⟩
      · exact sc.trans (sd.trans (v56.trans (v7.trans (vh.trans (same_new hr5 _)))))
      · rw [List.take_add_one, ez, List.map_append]
        exact (hys.keep (sd.trans (v56.trans (v7.trans (vh.trans (same_new hr5 _)))))).append (.cons (DV.upd2 hr5 (.str _) huv) .nil)
    rintro σ ys Hc pS ⟨c0, rfl, sc, hys⟩ hpS
    rw [List.length_map, List.take_length] at hys
    have v1 := same_new hpS (.lst ys)
    have mS : upd Hc pS (.lst ys) pS = some (.lst ys) := upd_same
    have hys := hys.keep v1
    have tS := sc.trans v1
    generalize upd Hc pS (.lst ys) = HS at mS hys tS ⊢
    refine ⟨(by show 0 ≤ sizeLine; decide), fun q hq => ?_⟩
    have v2 := same_new hq (.lst [])
    have hB : upd HS q (.lst []) q = some (.lst []) := upd_same
    have nS := mS
    have chB : ChNs K (fun l => H l = none ∧ l ≠ q) (upd HS q (.lst [])) zs (ctsOf st g0 (gs.take i)) := (chs.keep tS).to (fun _ _ e => v2 _ _ e) (fun _ _ _ e => v2 _ _ e) (fun _ _ _ d => d.keep v2) (fun l zs n e => ⟨n, ne_of_none e hq⟩)
    have mS := v2 _ _ mS
    have hys := hys.keep v2
    have hfo := v2 _ _ (tS _ _ hfo)
    have npS : pS ≠ q := ne_of_none nS hq
    have nfo : fo ≠ q := fun e => by rw [e, hB] at hfo; cases hfo; have := chB.len; rw [cts_len st g0 gs i (by have := lt_of_get eg; omega)] at this; have h0 := Nat.pow_pos (n := i) (show 0 < st.length + 1 by omega); simp at this; omega
    have tB : Same H (upd HS q (.lst [])) := t'.trans (tS.trans v2)
    have t10 : Same H10 (upd HS q (.lst [])) := s'.trans (tS.trans v2)
    have nHq : H q = none := (t'.trans tS).free hq
    have n10q : H10 q = none := (s'.trans tS).free hq
    generalize upd HS q (.lst []) = HB at hB chB mS hys hfo tB t10 ⊢
    have ci : i < gs.length := lt_of_get eg
    have clen := cts_len st g0 gs i (by omega)
    have cN := cts_len st g0 gs (i + 1) (by omega)
    have c5 := pow_5 hst4 (show i + 1 ≤ 4 by omega)
    have cmem := (cts_mem st g0 gs i (by omega)).1
    rw [cts_take st g0 eg] at cN ⊢
    generalize ctsOf st g0 (gs.take i) = cts at chB clen cN cmem ⊢
    have f1 : ∀ ct : Ct, (oneC st gq ct).length = st.length + 1 := fun ct => by unfold oneC nms; simp
    have zl := chB.len
    have sm : ∀ {j k : Nat}, j < cts.length → k ≤ st.length + 1 → j * (st.length + 1) + k ≤ 625 := fun {j k} hj hk => by
      have h1 : (j + 1) * (st.length + 1) ≤ cts.length * (st.length + 1) := Nat.mul_le_mul_right _ hj
      rw [Nat.succ_mul] at h1
      have h2 : cts.length * (st.length + 1) = (st.length + 1) ^ (i + 1) := by rw [clen, Nat.pow_succ]
      omega
    have fl : ∀ j, j ≤ cts.length → ((cts.take j).flatMap (oneC st gq)).length = j * (st.length + 1) := fun j hj => by
      rw [len_flat (n := st.length + 1) _ fun x _ => f1 x, List.length_take, Nat.min_eq_left hj]
    refine ⟨_, rfl, fo, rfl, ⟨_, SqL.of hfo⟩, ?_⟩
    refine for_list (K := K) (a := fo) (xs := zs) (fun j σ Hj => ∃ (ws : List V) (c7 c8 c9 c10 : Option V), σ = [some (.ref a), some (.ref b), some (.ref p3), some (.ref fo), some gv, some (.ref pS), some (.ref q), c7, c8, c9, c10] ∧ SD q HB Hj ∧ Hj q = some (.lst ws) ∧ ChNs K (fun l => H l = none ∧ l ≠ q) Hj ws ((cts.take j).flatMap (oneC st gq))) ⟨[], _, _, _, _, rfl, SD.refl _ _, hB, .nil⟩ ?_ ?_ ?_
    · rintro j σ Hj hj ⟨ws, c7, c8, c9, c10, rfl, sd, _⟩
      exact SqL.of (sd _ _ nfo hfo)
    · rintro j xv σ Hj hj ⟨ws, c7, c8, c9, c10, rfl, sd, hq', chw⟩
      obtain ⟨ct, ec, p, l, y, rfl, hp, hl, ⟨nl0, nlq⟩, hy'⟩ := chB.get hj
      have hjc := lt_of_get ec
      have pq : p ≠ q := ne_of hp hB (by simp)
      obtain ⟨cin, ceq⟩ := cmem ct (List.mem_of_getElem? ec)
      have ctb : Tb 170 ct.2 := by rw [ceq]; exact due_tb hst4 hsb (fun g hg => by
        rcases List.mem_cons.mp hg with rfl | m
        · exact hgb _ List.mem_cons_self
        · exact hgb g (List.mem_cons_of_mem _ (List.mem_of_mem_take m))) (by rw [cin.1]; omega)
      refine ⟨p, _, rfl, SqT.of (sd _ _ pq hp), rfl, _, _, rfl, _, _, rfl, rfl, ?_⟩
      refine ⟨_, rfl, pS, rfl, ⟨_, SqL.of (sd _ _ npS mS)⟩, ?_⟩
      have hyl : ys.length = st.length + 1 := by have := hys.len; rw [List.length_map] at this; rw [this]; unfold nms; simp
      refine for_list (K := K) (a := pS) (xs := ys) (fun k σ Hk => ∃ (ws : List V) (c9 c10 : Option V), σ = [some (.ref a), some (.ref b), some (.ref p3), some (.ref fo), some gv, some (.ref pS), some (.ref q), some (.ref l), some y, c9, c10] ∧ SD q HB Hk ∧ Hk q = some (.lst ws) ∧ ChNs K (fun l => H l = none ∧ l ≠ q) Hk ws ((cts.take j).flatMap (oneC st gq) ++ (oneC st gq ct).take k)) ⟨ws, _, _, rfl, sd, hq', by rw [List.take_zero, List.append_nil]; exact chw⟩ ?_ ?_ ?_
      · rintro k' σ Hk hk ⟨ws, c9, c10, rfl, sd, _⟩
        exact SqL.of (sd _ _ npS mS)
      · rintro k' sv σ Hk hk ⟨ws, c9, c10, rfl, sd, hq', chw⟩
        obtain ⟨sdd, hsd, hsv⟩ := hys.get hk
        rw [List.getElem?_map] at hsd
        cases ez : (nms st)[k']? with
        | none => rw [ez] at hsd; cases hsd
        | some z =>
        rw [ez] at hsd
        cases hsd
        have kl := lt_of_get hk
        have wl : ws.length ≤ 625 := by
          rw [chw.len, List.length_append, fl j (by omega), List.length_take, f1]
          exact sm hjc (Nat.min_le_right _ _)
        have sT := sdT hB sd
        obtain ⟨p', x1, x2, rfl, hp', g1, g2⟩ := DV.t2 (dv_keepT sT rfl hsv : DV K Hk sv (stD st gq z))
        obtain rfl := DV.str_of g1
        have hyk := dv_keepT sT rfl hy'
        have sH : Same H Hk := fun b' o e => sd _ _ (ne_of_none e nHq) (tB _ _ e)
        refine ⟨p', _, rfl, hp', rfl, _, _, rfl, _, _, rfl, rfl, ?_⟩
        refine ⟨_, rfl, .inl ⟨rfl, _, SqL.of hq'⟩, _, rfl, _, rfl, (by show 1 ≤ sizeLine; decide), fun r1 hr1 => ?_⟩
        have v5 := same_new hr1 (.lst [.str z])
        have m5 : upd Hk r1 (.lst [.str z]) r1 = some (.lst [.str z]) := upd_same
        generalize upd Hk r1 (.lst [.str z]) = Hl at v5 m5 ⊢
        have cl : (ct.1.map V.str).length ≤ 4 := by rw [List.length_map, cin.1]; omega
        refine ⟨l, r1, _, _, rfl, rfl, v5 _ _ (sd _ _ nlq hl), m5, Nat.le_of_lt (small1000 (by simp only [List.length_cons, List.length_nil]; omega)), fun r2 hr2 => ?_⟩
        have v6 := same_new hr2 (.lst (ct.1.map V.str ++ [.str z]))
        have m6 : upd Hl r2 (.lst (ct.1.map V.str ++ [.str z])) r2 = some (.lst ((ct.1 ++ [z]).map V.str)) := by rw [upd_same, List.map_append]; rfl
        have nr2 : r2 ≠ q := Ne.symm (ne_of_none (v5 _ _ hq') hr2)
        have nH2 : H r2 = none := (sH.trans v5).free hr2
        generalize upd Hl r2 (.lst (ct.1.map V.str ++ [.str z])) = Hm at v6 m6 ⊢
        have v56 := v5.trans v6
        refine ⟨_, rfl, _, rfl, _, _, .cons (hyk.keep v56) (.cons (g2.keep v56) .nil), ⟨_, _, 170, rfl, ctb, step_tb hst4 hsb hgb', by decide, rfl⟩, fun jv Hn v7 hjv => ?_⟩
        refine ⟨(by show 2 ≤ sizeLine; decide), fun r3 hr3 => ?_⟩
        have v8 := same_new hr3 (.tup [.ref r2, jv])
        have m8 : upd Hn r3 (.tup [.ref r2, jv]) r3 = some (.tup [.ref r2, jv]) := upd_same
        have m6 := (v7.trans v8) _ _ m6
        have hjv := hjv.keep v8
        have v58 := v56.trans (v7.trans v8)
        generalize upd Hn r3 (.tup [.ref r2, jv]) = Ho at m8 m6 hjv v58 ⊢
        have hqo := v58 _ _ hq'
        have nr3 : r3 ≠ q := ne_of m8 hqo (by simp)
        refine ⟨q, ws, _, rfl, rfl, hqo, small1000 (by omega), ?_⟩
        have sdo : SD q Ho (upd Ho q (.lst (ws ++ [.ref r3]))) := fun b' o n e => by rw [upd_ne n]; exact e
        refine ⟨ws ++ [.ref r3], _, _, rfl, fun b' o n e => sdo _ _ n (v58 _ _ (sd _ _ n e)), upd_same, ?_⟩
        have eo : (oneC st gq ct)[k']? = some (ct.1 ++ [z], ct.2.then (tabOf (stepB st (z, gq)))) := by unfold oneC; rw [List.getElem?_map, ez]; rfl
        rw [List.take_add_one, eo, ← List.append_assoc]
        refine ChNs.snoc ⟨r3, r2, jv, rfl, ?_, ?_, ⟨nH2, nr2⟩, ?_⟩ ((chw.keep v58).sd hqo sdo fun l h => h.2)
        · exact sdo _ _ nr3 m8
        · exact sdo _ _ nr2 m6
        · exact dv_keepT (sdT hqo sdo) rfl hjv
      · rintro σ Hk ⟨ws, c9, c10, rfl, sd, hq', chw⟩
        refine ⟨ws, _, _, _, _, rfl, sd, hq', ?_⟩
        rw [hyl, ← f1 ct, List.take_length] at chw
        rw [List.take_add_one, ec, List.flatMap_append]
        simpa using chw
    · rintro σ Hj ⟨ws, c7, c8, c9, c10, rfl, sd, hq', chw⟩
      rw [zl, List.take_length] at chw
      refine ⟨_, rfl, q, ws, _, _, _, _, _, _, _, rfl, fun b' o e => sd _ _ (ne_of_none e n10q) (t10 _ _ e), hq', chw.weak fun l h => h.1⟩
  · rintro σ H' ⟨fo, zs, c4, c5, c6, c7, c8, c9, c10, rfl, s', hfo, chs⟩
    rw [hgl, List.take_length] at chs
    exact ⟨_, rfl, k fo zs _ (u10.trans s') hfo chs⟩
end
end K65
namespace K65
open PySem L2 Lib Fr Op
seal PE PT PW PA PS PSs PG PGs PI PO PIfs
section
variable {P : Program} {w : World} {K : PySem.W.Frag} {mg : Str → Option Value} {base : Heap} {ad : Adr} {c : Bool}
theorem mc_fewest (T : Txt K mg ad) : MC P w K mg base 8 ad.Shop "fewest" ["self", "gaps", "wish"] (spFewA K ad.Shop) := by
  have C_look_at_gaps := c_look_at_gaps (P := P) (w := w) (base := base) T
  have C_is_wish := c_is_wish (P := P) (w := w) (base := base) T
  have C_does := c_does (P := P) (w := w) (base := base) T
  have C_glasses_in := c_glasses_in (P := P) (w := w) (base := base) T
  refine T.ex.q_Shop_fewest.mcR sc_Shop_fewest (fun _ _ _ _ _ _ => by3 fun _ _ _ => rfl) (fun vs H Q E h => ?_) (fun f cdv A outer s H vs Q E hr h => ?_)
  · obtain ⟨_, _, _, _, _, _, _, _, rfl, _⟩ := h; rfl
  obtain ⟨x, y, z, st, g0, gs, wi, n, rfl, hsh, hst4, hsb, hy, h4, hgb, hz, wb, hn, n170, k1, k2⟩ := h
  refine ⟨_, (pss_cons (ps_expr (pe_cB C_look_at_gaps (hr.mono (by decide)) (passes1 bodyB) (pa_name (pv 1) pa_nil))) (pss_cons (ps_if (pt_not (pt_val (pe_cB C_is_wish (hr.mono (by decide)) pass01 (pa_name (pv 2) pa_nil)))) (pss_one (ps_raise bodyB rfl T.ex.c_NoWish (pa_const pe_str pa_nil))) pss_nil) (pss_cons (ps_compX (i := 3) sc_Shop_fewest.nd rfl (by first | exact Or.inl rfl | exact Or.inr rfl) ["choice", "table", "wish"] [none, none, some 2] rfl (pi_list (pe_mB (k := 6) (pv 0) (hr.mono (by decide)) (pa_name (pv 1) pa_nil))) (fun _ _ _ _ _ _ => (pg_tupK (K := K) (n := 2) rfl (pgs_cons (pg_name (i := 0) (show List.Nodup [("choice" : Str), ("table" : Str), ("wish" : Str)] by decide) rfl (by first | exact Or.inl rfl | exact Or.inr rfl)) (pgs_cons (pg_name (i := 1) (show List.Nodup [("choice" : Str), ("table" : Str), ("wish" : Str)] by decide) rfl (by first | exact Or.inl rfl | exact Or.inr rfl)) pgs_nil)))) (fun _ _ _ _ _ _ => (pifs_one (pt_val (pe_cB C_does (hr.mono (by decide)) pass01 (pa_name (pv 1) (pa_name (pv 2) pa_nil)))))) (fun _ _ _ _ _ _ => (pv 0)) (cap_def (hcell := by decide) (hf := (show ∀ y : Str × NameKind, y ∈ _ → y.2 = NameKind.free → (defScope s_Shop_fewest).names.lookup y.1 = some NameKind.cell by decide))) (by decide) rfl (by decide) rfl (fun i j h => by
      rcases i with _ | _ | _ | i
      · simp at h
      · simp at h
      · simp at h; subst h; exact ⟨_, rfl, rfl, rfl, rfl⟩
      · simp at h)) (pss_one (ps_ret (pe_minkey rfl rfl T.min C_glasses_in (hr.mono (by decide)) (pv 3))))))), ?_⟩
  refine ⟨_, rfl, y, _, rfl, hy, fun _ H1 s1 => ?_, fun e => absurd (e.symm.trans (gaps_ok h4)) (by decide)⟩
  refine ⟨_, rfl, z, _, rfl, hz.keep s1, .inl ⟨Wish.good (by omega) wb, fun H2 s2 => ⟨_, rfl, iteF ?_⟩⟩⟩
  have s12 := s1.trans s2
  obtain ⟨a, dx, ls, ks, rfl, ha, hls, hks⟩ := id hsh
  refine ⟨_, rfl, a, _, dx, _, _, _, rfl, s12 _ _ ha, rfl, mc_tables_for T, _, rfl, .ref a, y, st, g0, gs, rfl, hsh.keep s12, hst4, hsb, hy.keep s12, h4, hgb, fun l zs H3 s3 ml ch => ⟨l, rfl, ⟨_, SqL.of ml⟩, ?_⟩⟩
  have hz3 := hz.keep (s12.trans s3)
  have s03 := s12.trans s3
  obtain ⟨cm1, cm2⟩ := cts_mem st g0 gs gs.length (Nat.le_refl _)
  have cl := cts_len st g0 gs gs.length (Nat.le_refl _)
  rw [List.take_length] at cm1 cm2 cl
  have c5 := pow_5 hst4 h4
  generalize ctsOf st g0 gs = cts at ch cm1 cm2 cl
  have zl := ch.len
  refine comp_list (K := K) (a := l) (xs := zs) (fun i σ ys H' => ∃ c0 c1, σ = [c0, c1, some z] ∧ Same H3 H' ∧ LcAt (fun l => H l = none) H3 ys (((cts.take i).filter fun ct => doesB ct.2 wi).map (·.1))) ⟨_, _, rfl, Same.refl _, .nil⟩ ?_ ?_ ?_
  · rintro i σ ys H' hi ⟨c0, c1, rfl, s4, hys⟩
    refine ⟨?_, SqL.of (s4 _ _ ml)⟩
    have h1 := hys.len
    have h2 := List.length_filter_le (fun ct : Ct => doesB ct.2 wi) (cts.take i)
    rw [List.length_map] at h1
    rw [List.length_take] at h2
    exact Nat.le_of_lt (small1000 (by omega))
  · rintro i v σ ys H' hi ⟨c0, c1, rfl, s4, hys⟩
    obtain ⟨ct, ec, p, lc, yv, rfl, hp, hlc, hN, hyv⟩ := ch.get hi
    obtain ⟨cin, ceq⟩ := cm1 ct (List.mem_of_getElem? ec)
    have tb : Tb n ct.2 := by rw [ceq]; exact Lib.Tb.mono (due_tb hst4 hsb hgb (by rw [cin.1]; exact h4)) n170
    have det : ct.2.det = 1 := by rw [ceq]; exact det_tab _
    refine ⟨p, _, rfl, SqT.of (s4 _ _ hp), rfl, _, _, rfl, _, _, rfl, rfl, ?_⟩
    refine ⟨_, rfl, _, rfl, yv, z, ct.2, wi, n, rfl, hyv.keep s4, hz3.keep s4, tb, det, wb, hn, fun H5 s5 => ⟨_, rfl, ?_⟩⟩
    have ht : ((cts.take (i + 1)).filter fun ct => doesB ct.2 wi).map (·.1) = ((cts.take i).filter fun ct => doesB ct.2 wi).map (·.1) ++ if doesB ct.2 wi = true then [ct.1] else [] := by
      rw [List.take_add_one, ec, List.filter_append, List.map_append]
      congr 1
      show ([ct].filter _).map _ = _
      rw [List.filter_cons]
      cases doesB ct.2 wi <;> rfl
    cases hd : doesB ct.2 wi with
    | true =>
      rw [hd, if_pos rfl] at ht
      exact iteT ⟨_, rfl, nx (lt_of_get hi) ⟨_, _, rfl, s4.trans s5, by rw [ht]; exact LcAt.snoc (N := fun l => H l = none) (s12.free hN) hlc hys⟩⟩
    | false =>
      rw [hd, if_neg (by decide), List.append_nil] at ht
      exact iteF (nx (lt_of_get hi) ⟨_, _, rfl, s4.trans s5, by rw [ht]; exact hys⟩)
  · rintro σ ys H' pd ⟨c0, c1, rfl, s4, hys⟩ hpd
    rw [zl, List.take_length] at hys
    have u5 := same_new hpd (.lst ys)
    have m5 : upd H' pd (.lst ys) pd = some (.lst ys) := upd_same
    have hys := hys.keep (s4.trans u5)
    have s06 := s03.trans (s4.trans u5)
    generalize upd H' pd (.lst ys) = H6 at m5 hys s06 ⊢
    have dm : ∀ c, c ∈ (cts.filter fun ct => doesB ct.2 wi).map (·.1) ↔ inN st gs.length c ∧ doesB (tabOf (dueB st g0 gs c)) wi = true := fun c => by
      refine ⟨fun h => ?_, fun h => ?_⟩
      · obtain ⟨ct, hm, rfl⟩ := List.mem_map.mp h
        obtain ⟨hm, hd⟩ := List.mem_filter.mp hm
        obtain ⟨a, b⟩ := cm1 ct hm
        rw [← b]
        exact ⟨a, hd⟩
      · obtain ⟨t, ht⟩ := cm2 c h.1
        have := (cm1 _ ht).2
        refine List.mem_map.mpr ⟨(c, t), List.mem_filter.mpr ⟨ht, ?_⟩, rfl⟩
        show doesB t wi = true
        rw [show t = _ from this]
        exact h.2
    generalize (cts.filter fun ct => doesB ct.2 wi).map (·.1) = cs at hys dm
    refine ⟨_, rfl, pd, ys, cs.map glassN, rfl, SqL.of m5, fun i v H7 hi s7 => ?_, fun v H7 s7 mo => ?_⟩
    · obtain ⟨lc, c, rfl, ec, _, hlc⟩ := hys.get hi
      refine ⟨lc, c, rfl, SqL.of (s7 _ _ hlc), ?_, Same.refl _⟩
      rw [List.getD_eq_getElem?_getD, List.getElem?_map, ec]
      rfl
    · rcases mo with ⟨e, rfl⟩ | ⟨ne, e⟩
      · subst e
        have e0 : cs = [] := List.eq_nil_of_length_eq_zero (by rw [← hys.len]; rfl)
        refine k2 (fun c hc => ?_) _ (s06.trans s7)
        cases hd : doesB (tabOf (dueB st g0 gs c)) wi with
        | false => rfl
        | true =>
          have := (dm c).mpr ⟨hc, hd⟩
          rw [e0] at this
          cases this
      · obtain ⟨b1, b2⟩ := best_le (ns := cs.map glassN) (ys.length - 1)
        obtain ⟨lc, c, rfl, ec, hN, hlc⟩ := hys.get e
        obtain ⟨i1, i2⟩ := (dm c).mp (List.mem_of_getElem? ec)
        refine k1 lc c _ (s06.trans s7) hN (s7 _ _ hlc) i1 i2 fun c' hc' hd' => ?_
        obtain ⟨j, hj⟩ := List.getElem?_of_mem ((dm c').mpr ⟨hc', hd'⟩)
        have hjl := lt_of_get hj
        have yl := hys.len
        have := b2 j (by omega)
        rw [List.getD_eq_getElem?_getD, List.getD_eq_getElem?_getD, List.getElem?_map, List.getElem?_map, hj, ec] at this
        have this : glassN c ≤ glassN c' := this
        rw [glassN_many, glassN_many] at this
        omega
end
end K65
namespace K65
open PySem L2 Lib Fr Op
seal PE PT PW PA PS PSs PG PGs PI PO PIfs
section
variable {P : Program} {w : World} {K : PySem.W.Frag} {mg : Str → Option Value} {base : Heap} {ad : Adr} {c : Bool}
theorem c__law_source (T : Txt K mg ad) : CalB P w K mg base true 2 "_law_source" ["_law_script", "_law_k"] (spSrc K) := by
  have C__law_cell_at := c__law_cell_at (P := P) (w := w) (base := base) T
  refine T.t__law_source.calN sc__law_source (fun _ _ _ _ _ _ => by2 fun _ _ => rfl) (fun vs H Q E h => ?_) (fun f cdv A outer s H vs Q E hr h => ?_)
  · obtain ⟨_, _, _, rfl, _⟩ := h; rfl
  obtain ⟨a, ns, k, rfl, hS, k0, k1, q⟩ := h
  refine ⟨_, (pss_cons (ps_set (i := 2) sc__law_source.nd rfl (Or.inl rfl) (pe_cB C__law_cell_at (hr.mono (by decide)) pass01 (pa_name (pv 0) (pa_name (pv 1) pa_nil)))) (pss_cons (ps_set (i := 3) sc__law_source.nd rfl (Or.inl rfl) (pe_op op_mod (pe_op op_mul (pe_op op_add (pe_op op_add (pe_op op_mod (pv 2) pe_int) (pe_op op_mul pe_int (pv 1))) pe_int) pe_int) pe_int)) (pss_one (ps_ret (pe_lst (pa_bin (pe_op op_mul (pe_op op_fdiv (pv 2) pe_int) (pe_callTy call_int1 rfl T.int bt_int (pa_cmp (pe_cmpR op_eq (pe_op op_mod (pv 2) pe_int) pe_int (nomark _)) pa_nil))) (pa_name (pv 3) pa_nil))))))), ?_⟩
  refine ⟨_, rfl, _, rfl, a, ns, k, rfl, hS, k0, fun z => ?_⟩
  refine ⟨_, rfl, _, _, rfl, rfl, (by show (0 : Int) < 1000003; decide), _, rfl, _, _, rfl, rfl, .inl ⟨by decide, by decide⟩, _, _, rfl, rfl, _, _, rfl, rfl, _, _, rfl, rfl, .inr ⟨by decide, by decide⟩, _, _, rfl, rfl, (by show (0 : Int) < 2147483647; decide), ?_⟩
  generalize ho : (z % 1000003 + 104729 * k + 7) * 48271 % 2147483647 = o
  have o0 : 0 ≤ o := by rw [← ho]; exact Int.emod_nonneg _ (by decide)
  have o1 : o < 2147483647 := by rw [← ho]; exact Int.emod_lt_of_pos _ (by decide)
  refine ⟨_, rfl, _, _, rfl, rfl, ⟨by decide, by decide⟩, _, rfl, _, _, rfl, rfl, (by show (0 : Int) < 2; decide), rfl, .inr ⟨_, rfl, ?_⟩⟩
  generalize hb : (if (decide (z % 2 = 0)) = true then (1 : Int) else 0) = b
  have bb : 0 ≤ b ∧ b ≤ 1 := by rw [← hb]; split <;> omega
  refine ⟨_, _, rfl, rfl, .inr ⟨by omega, by omega⟩, _, rfl, (by show 2 ≤ sizeLine; decide), fun d hd => ?_⟩
  exact q d _ (same_new hd _) hd ⟨_, _, upd_same, Int.emod_nonneg _ (by decide), Int.emod_lt_of_pos _ (by decide)⟩
theorem c__law_draw (T : Txt K mg ad) : CalB P w K mg base true 1 "_law_draw" ["_law_source_here", "_law_many_here"] spDrawS := by
  refine T.t__law_draw.calN sc__law_draw (fun _ _ _ _ _ _ => by2 fun _ _ => rfl) (fun vs H Q E h => ?_) (fun f cdv A outer s H vs Q E hr h => ?_)
  · obtain ⟨_, _, rfl, _⟩ := h; rfl
  obtain ⟨d, m, rfl, hd, ⟨m0, m1⟩, q⟩ := h
  obtain ⟨a, b, hdd, b0, b1⟩ := hd.x
  refine ⟨_, (pss_cons (ps_if (pt_cmpR op_gt (pe_ix ix_list (pv 0) pe_int (fun _ _ => rfl)) pe_int (nomark _)) (pss_cons (ps_set (i := 2) sc__law_draw.nd rfl (Or.inl rfl) (pe_op op_mod (pe_ix ix_list (pv 0) pe_int (fun _ _ => rfl)) (pv 1))) (pss_cons (ps_asg (pe_op op_fdiv (pe_ix ix_list (pv 0) pe_int (fun _ _ => rfl)) (pv 1)) (pg_sub (pv 0) pe_int set_list)) (pss_one (ps_ret (pv 2))))) pss_nil) (pss_cons (ps_asg (pe_op op_mod (pe_op op_add (pe_op op_mul (pe_ix ix_list (pv 0) pe_int (fun _ _ => rfl)) pe_int) pe_int) pe_int) (pg_sub (pv 0) pe_int set_list)) (pss_one (ps_ret (pe_op op_mod (pe_op op_fdiv (pe_op op_mod (pe_op op_mul (pe_ix ix_list (pv 0) pe_int (fun _ _ => rfl)) (pe_ix ix_list (pv 0) pe_int (fun _ _ => rfl))) pe_int) pe_int) (pv 1)))))), ?_⟩
  refine ⟨_, rfl, d, _, _, _, rfl, rfl, SqL.of hdd, rfl, _, _, rfl, rfl, _, rfl, ite2 (fun _ => ?_) (fun _ => ?_)⟩
  · refine ⟨_, rfl, d, _, _, _, rfl, rfl, SqL.of hdd, rfl, _, rfl, _, _, rfl, rfl, m0, ?_⟩
    refine ⟨_, rfl, d, _, _, _, rfl, rfl, SqL.of hdd, rfl, _, rfl, _, _, rfl, rfl, ⟨m0, m1⟩, _, rfl, d, _, _, 0, rfl, rfl, hdd, rfl, ?_⟩
    exact ⟨_, rfl, q _ _ (Int.emod_nonneg _ (by omega)) (Int.emod_lt_of_pos _ m0) ⟨a / m, b, upd_same, b0, b1⟩ sd_upd⟩
  · refine ⟨_, rfl, d, _, _, _, rfl, rfl, SqL.of hdd, rfl, _, _, rfl, rfl, .inr ⟨by decide, by decide⟩, _, _, rfl, rfl, _, _, rfl, rfl, (by show (0 : Int) < 2147483647; decide), ?_⟩
    obtain ⟨x, hx⟩ : ∃ x : Int, x = (b * 48271 + 11) % 2147483647 := ⟨_, rfl⟩
    have x0 : 0 ≤ x := by rw [hx]; exact Int.emod_nonneg _ (by decide)
    have x1 : x < 2147483647 := by rw [hx]; exact Int.emod_lt_of_pos _ (by decide)
    dsimp only
    rw [← hx]
    refine ⟨_, rfl, d, _, _, 1, rfl, rfl, hdd, rfl, ?_⟩
    have hd2 : upd H d (.lst ([V.int a, .int b].set 1 (.int x))) d = some (.lst [.int a, .int x]) := upd_same
    have sd2 : SD d H (upd H d (.lst ([V.int a, .int b].set 1 (.int x)))) := sd_upd
    generalize upd H d (.lst ([V.int a, .int b].set 1 (.int x))) = H2 at hd2 sd2 ⊢
    refine ⟨_, rfl, d, _, _, _, rfl, rfl, SqL.of hd2, rfl, _, rfl, d, _, _, _, rfl, rfl, SqL.of hd2, rfl, _, _, rfl, rfl, .inl ⟨by omega, by omega⟩, _, _, rfl, rfl, (by show (0 : Int) < 2147483629; decide), _, _, rfl, rfl, ⟨by decide, by decide⟩, _, rfl, _, _, rfl, rfl, m0, ?_⟩
    exact q _ _ (Int.emod_nonneg _ (by omega)) (Int.emod_lt_of_pos _ m0) ⟨a, x, hd2, x0, x1⟩ sd2
theorem c__law_part (T : Txt K mg ad) : CalB P w K mg base true 2 "_law_part" ["_law_source_here"] (spPartS K) := by
  have C__law_draw := c__law_draw (P := P) (w := w) (base := base) T
  have C__law_lowest := c__law_lowest (P := P) (w := w) (base := base) T
  refine T.t__law_part.calN sc__law_part (fun _ _ _ _ _ _ => by1 fun _ => rfl) (fun vs H Q E h => ?_) (fun f cdv A outer s H vs Q E hr h => ?_)
  · obtain ⟨_, rfl, _⟩ := h; rfl
  obtain ⟨d, rfl, hd, q⟩ := h
  refine ⟨_, (pss_cons (ps_set (i := 1) sc__law_part.nd rfl (Or.inl rfl) (pe_ix ix_list (pe_lst (pa_const pe_int (pa_const pe_int (pa_const pe_int (pa_const pe_int pa_nil))))) (pe_cB C__law_draw (hr.mono (by decide)) pass01 (pa_name (pv 0) (pa_const pe_int pa_nil))) (fun _ _ => rfl))) (pss_cons (ps_set (i := 2) sc__law_part.nd rfl (Or.inl rfl) (pe_op op_sub (pe_cB C__law_draw (hr.mono (by decide)) pass01 (pa_name (pv 0) (pa_bin (pe_op op_add (pe_op op_mul pe_int (pv 1)) pe_int) pa_nil))) (pv 1))) (pss_one (ps_ret (pe_cB C__law_lowest (hr.mono (by decide)) pass01 (pa_name (pv 2) (pa_bin (pe_op op_add pe_int (pe_cB C__law_draw (hr.mono (by decide)) pass01 (pa_name (pv 0) (pa_sub (pe_ix ix_list (pe_lst (pa_const pe_int (pa_const pe_int (pa_const pe_int (pa_name (pv 1) pa_nil))))) (pe_cB C__law_draw (hr.mono (by decide)) pass01 (pa_name (pv 0) (pa_const pe_int pa_nil))) (fun _ _ => rfl)) pa_nil)))) pa_nil))))))), ?_⟩
  refine ⟨(by show 4 ≤ sizeLine; decide), fun p hp => ?_⟩
  have s1 := same_new hp (.lst [.int 4, .int 9, .int 9, .int 99])
  have hp1 : upd H p (.lst [.int 4, .int 9, .int 9, .int 99]) p = some (.lst [.int 4, .int 9, .int 9, .int 99]) := upd_same
  have np := hd.nd hp
  refine ⟨_, rfl, d, 4, rfl, hd.keep s1, ⟨by decide, by decide⟩, fun x H1 x0 x1 hd1 sd1 => ?_⟩
  obtain ⟨v, hv, hm⟩ := atI_in (xs := [V.int 4, V.int 9, V.int 9, V.int 99]) (r := x) x0 (by simp only [List.length_cons, List.length_nil]; omega)
  obtain ⟨m, rfl, m0, m1⟩ : ∃ m : Int, v = .int m ∧ 1 ≤ m ∧ m ≤ 99 := by
    simp only [List.mem_cons, List.not_mem_nil, or_false] at hm
    rcases hm with rfl | rfl | rfl | rfl <;> exact ⟨_, rfl, by decide, by decide⟩
  refine ⟨p, _, _, _, rfl, rfl, SqL.of (sd1 _ _ np hp1), hv, ?_⟩
  have t1 := (s1.sd d).trans sd1
  refine ⟨_, rfl, _, rfl, _, _, rfl, rfl, .inl ⟨by decide, by decide⟩, _, _, rfl, rfl, d, _, rfl, hd1, ⟨by omega, by omega⟩, fun y H2 y0 y1 hd2 sd2 => ?_⟩
  have t2 := t1.trans sd2
  refine ⟨_, rfl, _, _, rfl, rfl, ?_⟩
  refine ⟨_, rfl, _, rfl, _, rfl, (by show 4 ≤ sizeLine; decide), fun p2 hp2 => ?_⟩
  have s3 := same_new hp2 (.lst [.int 1, .int 3, .int 9, .int m])
  have hp21 : upd H2 p2 (.lst [.int 1, .int 3, .int 9, .int m]) p2 = some (.lst [.int 1, .int 3, .int 9, .int m]) := upd_same
  have np2 := hd2.nd hp2
  refine ⟨_, rfl, d, 4, rfl, hd2.keep s3, ⟨by decide, by decide⟩, fun x3 H3 x30 x31 hd3 sd3 => ?_⟩
  obtain ⟨v2, hv2, hm2⟩ := atI_in (xs := [V.int 1, V.int 3, V.int 9, V.int m]) (r := x3) x30 (by simp only [List.length_cons, List.length_nil]; omega)
  obtain ⟨j, rfl, j0, j1⟩ : ∃ j : Int, v2 = .int j ∧ 1 ≤ j ∧ j ≤ 99 := by
    simp only [List.mem_cons, List.not_mem_nil, or_false] at hm2
    rcases hm2 with rfl | rfl | rfl | rfl
    · exact ⟨_, rfl, by decide, by decide⟩
    · exact ⟨_, rfl, by decide, by decide⟩
    · exact ⟨_, rfl, by decide, by decide⟩
    · exact ⟨_, rfl, m0, m1⟩
  refine ⟨p2, _, _, _, rfl, rfl, SqL.of (sd3 _ _ np2 hp21), hv2, ?_⟩
  have t3 := t2.trans ((s3.sd d).trans sd3)
  refine ⟨d, _, rfl, hd3, ⟨by omega, by omega⟩, fun y4 H4 y40 y41 hd4 sd4 => ?_⟩
  have t4 := t3.trans sd4
  refine ⟨_, _, rfl, rfl, ?_⟩
  have c0 : (0 : Int) < 1 + y4 := by omega
  have d0 : (1 + y4 : Int) ≠ 0 := by omega
  have p7 : (2 : Nat) ^ 7 = 128 := by decide
  have bs : (1 + y4 : Int).natAbs < 2 ^ 7 := by omega
  refine ⟨_, _, rfl, c0, Nat.lt_of_lt_of_le bs (by unfold lim; exact pow_le (by decide)), fun p5 hp5 => ?_⟩
  have s5 := same_new hp5 (.tup [.int (Fr.lt (y - m) (1 + y4)), .int (Fr.lb (y - m) (1 + y4))])
  exact q _ _ _ (hd4.keep s5) (t4.trans (s5.sd d)) (dv_low d0) (Bd.of d0 (show (y - m : Int).natAbs < 2 ^ 7 by omega) bs)
end
end K65
namespace K65
open PySem L2 Lib Fr Op
seal PE PT PW PA PS PSs PG PGs PI PO PIfs
section
variable {P : Program} {w : World} {K : PySem.W.Frag} {mg : Str → Option Value} {base : Heap} {ad : Adr} {c : Bool}
theorem c__law_inverse (T : Txt K mg ad) : CalB P w K mg base true 2 "_law_inverse" ["_law_one"] (PR K RInv) := by
  have C__law_lowest := c__law_lowest (P := P) (w := w) (base := base) T
  refine T.t__law_inverse.calN sc__law_inverse (fun _ _ _ _ _ _ => by1 fun _ => rfl) (fun vs H Q E h => ?_) (fun f cdv A outer s H vs Q E hr h => ?_)
  · obtain ⟨_, _, dv, ⟨_, rfl, _⟩, _⟩ := h; exact dv.len
  obtain ⟨_, _, dv, ⟨q, rfl, sq, hq, rfl⟩, k⟩ := h
  obtain ⟨_, rfl, hx⟩ := dv.one
  obtain ⟨a, rfl, ha⟩ := hx.fr
  have hn : q.num ≠ 0 := fun z => hq (Rat.num_eq_zero.mp z)
  obtain ⟨sg, hv, hsg, hs1⟩ : ∃ sg : Int, atI [V.int 1, V.int (-1)] (if decide (q.num < 0) = true then 1 else 0) = some (.int sg) ∧ sg * q.num = (q.num.natAbs : Int) ∧ (sg = 1 ∨ sg = -1) := by
    by_cases c : q.num < 0
    · exact ⟨-1, by rw [decide_eq_true c]; rfl, by omega, .inr rfl⟩
    · exact ⟨1, by rw [decide_eq_false c]; rfl, by omega, .inl rfl⟩
  refine ⟨_, (pss_one (ps_ret (pe_cB C__law_lowest (hr.mono (by decide)) pass01 (pa_bin (pe_op op_mul (pe_ix ix_tup (pv 0) pe_int (fun _ _ => rfl)) (pe_ix ix_list (pe_lst (pa_const pe_int (pa_un (pe_un un_neg pe_int) pa_nil))) (pe_callTy call_int1 rfl T.int bt_int (pa_cmp (pe_cmpR op_lt (pe_ix ix_tup (pv 0) pe_int (fun _ _ => rfl)) pe_int (nomark _)) pa_nil)) (fun _ _ => rfl))) (pa_call (pe_callB call_abs rfl T.abs bt_abs (pa_sub (pe_ix ix_tup (pv 0) pe_int (fun _ _ => rfl)) pa_nil)) pa_nil))))), ?_⟩
  refine ⟨_, rfl, a, _, _, _, rfl, rfl, ha, rfl, _, rfl, (by show 2 ≤ sizeLine; decide), fun p hp => ?_⟩
  have u := same_new hp (.lst [.int 1, .int (-1)])
  refine ⟨_, rfl, a, _, _, _, rfl, rfl, ha.keep u, rfl, _, _, rfl, rfl, .inr ⟨_, rfl, p, _, _, _, rfl, rfl, SqL.of upd_same, hv, _, _, rfl, rfl, .inr ⟨by omega, by omega⟩, _, rfl, a, _, _, _, rfl, rfl, ha.keep u, rfl, _, rfl, ?_⟩⟩
  rw [Fr.absE]
  have h0 : (0 : Int) < (q.num.natAbs : Int) := by omega
  refine ⟨_, _, rfl, h0, by rw [Int.natAbs_natCast]; exact Nat.lt_trans sq.n lim2_lim, fun p2 hp2 => k _ _ (u.trans (same_new hp2 _)) ?_⟩
  have e := dv_low (K := K) (H := upd H p (.lst [.int 1, .int (-1)])) (t := (q.den : Int) * sg) (b := (q.num.natAbs : Int)) (p := p2) (by omega)
  rw [inv_rat hq hsg] at e
  exact e
end
end K65
namespace K65
open PySem L2 Lib Fr Op
seal PE PT PW PA PS PSs PG PGs PI PO PIfs
section
variable {P : Program} {w : World} {K : PySem.W.Frag} {mg : Str → Option Value} {base : Heap} {ad : Adr} {c : Bool}
theorem c__law_name (T : Txt K mg ad) : CalB P w K mg base true 2 "_law_name" ["_law_salt", "_law_k"] spNm := by
  refine T.t__law_name.calN sc__law_name (fun _ _ _ _ _ _ => by2 fun _ _ => rfl) (fun vs H Q E h => ?_) (fun f cdv A outer s H vs Q E hr h => ?_)
  · obtain ⟨_, _, rfl, _⟩ := h; rfl
  obtain ⟨z, k, rfl, k26, z0, z1, q⟩ := h
  refine ⟨_, (pss_cons (ps_set (i := 2) sc__law_name.nd rfl (by first | exact Or.inl rfl | exact Or.inr rfl) pe_str) (pss_cons (ps_set (i := 3) sc__law_name.nd rfl (Or.inl rfl) (pe_bm PySem.F.plainAttrs_str PySem.F.slot_str_join PySem.F.type_str_join mt_join pe_str (pa_cons (pe_compX ["_law_j", "_law_letters", "_law_salt"] [none, some 2, some 0] rfl (pi_range1 rfl T.range (pa_bin (pe_op op_mod (pv 0) pe_int) pa_nil)) (fun _ _ _ _ _ _ => (pg_name (i := 0) (show List.Nodup [("_law_j" : Str), ("_law_letters" : Str), ("_law_salt" : Str)] by decide) rfl (by first | exact Or.inl rfl | exact Or.inr rfl))) (fun _ _ _ _ _ _ => pifs_nil) (fun _ _ _ _ _ _ => (pe_item_str (pv 1) (pe_op op_mod (pe_op op_add (pe_op op_fdiv (pv 2) pe_int) (pe_op op_mul (pv 0) (pv 0))) pe_int) (fun _ _ => rfl))) (cap_def (hcell := by decide) (hf := (show ∀ y : Str × NameKind, y ∈ _ → y.2 = NameKind.free → (defScope s__law_name).names.lookup y.1 = some NameKind.cell by decide))) (by decide) rfl (by decide) rfl (fun i j h => by
      rcases i with _ | _ | _ | i
      · simp at h
      · simp at h; subst h; exact ⟨_, rfl, rfl, rfl, rfl⟩
      · simp at h; subst h; exact ⟨_, rfl, rfl, rfl, rfl⟩
      · simp at h)) pa_nil))) (pss_cons (ps_set (i := 4) sc__law_name.nd rfl (Or.inl rfl) (pe_op op_mod (pe_op op_fdiv (pv 0) pe_int) (pe_op op_add (pe_callB call_len_str rfl T.len bt_len (pa_name (pv 3) pa_nil)) pe_int))) (pss_one (ps_ret (pe_op op_add_str (pe_op op_add_str (pe_slice sl_str (pv 3) po_none (po_some (pv 4))) (pe_item_str (pv 2) (pv 1) (fun _ _ => rfl))) (pe_slice sl_str (pv 3) (po_some (pv 4)) po_none))))))), ?_⟩
  have p63 : (2 : Int) ^ 63 = 9223372036854775808 := by decide
  have p64 : (2 : Int) ^ 64 = 18446744073709551616 := by decide
  refine ⟨rfl, _, rfl, _, _, rfl, rfl, (by show (0 : Int) < 7; decide), _, rfl, (by show -(2 ^ 62) ≤ z % 7; omega), (by show z % 7 < 2 ^ 62; omega), ?_⟩
  refine comp_range0 (lo := 0) (n := (z % 7).toNat) (fun i σ ys H' => ∃ c0, σ = [c0, some (.str letS), some (.int z)] ∧ ys = ((wCs z i).map fun c => (⟨#[c]⟩ : Str)).map V.str ∧ H' = H) ⟨_, rfl, rfl, rfl⟩ ?_ ?_ ?_
  · rintro i σ ys H' hi ⟨c0, rfl, rfl, rfl⟩
    rw [List.length_map, List.length_map, wCs_len]
    exact Nat.le_of_lt (small1000 (by omega))
  · rintro i σ ys H' hi ⟨c0, rfl, rfl, rfl⟩
    have b0 := Int.emod_nonneg (z / 7 + (0 + (i : Int)) * (0 + (i : Int))) (show (26 : Int) ≠ 0 by decide)
    have b1 := Int.emod_lt_of_pos (z / 7 + (0 + (i : Int)) * (0 + (i : Int))) (show (0 : Int) < 26 by decide)
    refine ⟨_, rfl, _, rfl, _, _, rfl, rfl, ⟨by decide, by decide⟩, _, rfl, _, rfl, _, _, rfl, rfl, .inl ⟨by omega, by omega⟩, _, _, rfl, rfl, _, _, rfl, rfl, (by show (0 : Int) < 26; decide), ?_⟩
    refine ⟨letS, _, _, rfl, rfl, b0, (by omega), (by rw [letS_len]; omega), letS_get _ (by omega), nx hi ⟨_, rfl, ?_, rfl⟩⟩
    unfold wCs
    rw [List.range_succ, List.map_append, List.map_append, List.map_append]
    rfl
  · rintro σ ys H' p ⟨c0, rfl, rfl, rfl⟩ hp
    have u := same_new hp (.lst (((wCs z (z % 7).toNat).map fun c => (⟨#[c]⟩ : Str)).map V.str))
    have jo : JoinOk (PySem.Str.ofString "") ((wCs z (z % 7).toNat).map fun c => (⟨#[c]⟩ : Str)) = true := by
      refine PyProof.Rows.joinOk_of_weight ?_ (by decide +kernel)
      rw [List.map_map, List.length_map]
      have e1 : (wCs z (z % 7).toNat).length = (z % 7).toNat := wCs_len _ _
      have e2 : ((wCs z (z % 7).toNat).map ((fun x : Str => x.length) ∘ fun c => (⟨#[c]⟩ : Str))).sum = (wCs z (z % 7).toNat).length := by
        rw [show ((fun x : Str => x.length) ∘ fun c : Nat => (⟨#[c]⟩ : Str)) = fun _ => 1 from rfl]
        generalize wCs z (z % 7).toNat = L
        induction L with
        | nil => rfl
        | cons a L ih => rw [List.map_cons, List.sum_cons, List.length_cons, ih, Nat.add_comm]
      rw [e2, e1]
      omega
    refine ⟨_, p, _, rfl, rfl, upd_same, jo, ?_⟩
    rw [joinT_one]
    have wl : (PySem.Str.mk (wCs z (z % 7).toNat).toArray).length = wN z := by show (wCs z (z % 7).toNat).toArray.size = _; rw [List.size_toArray, wCs_len]; rfl
    have wb := wN_b z
    have ab := wAt_b z
    have l1 : 1000 ≤ sizeLine := Nat.le_of_lt (small1000 (by omega))
    refine ⟨_, rfl, _, _, rfl, rfl, ⟨by decide, by decide⟩, _, rfl, _, rfl, by rw [wl]; omega, _, _, rfl, rfl, _, _, rfl, rfl, ?_, ?_⟩
    · show (0 : Int) < ((PySem.Str.mk (wCs z (z % 7).toNat).toArray).length : Int) + 1
      omega
    · dsimp only
      rw [wl]
      have ea : z / 49 % ((wN z : Int) + 1) = (wAt z : Int) := by
        unfold wAt
        rw [Int.toNat_of_nonneg (Int.emod_nonneg _ (by omega))]
      rw [ea]
      have hl : (wCs z (z % 7).toNat).length = wN z := wCs_len _ _
      refine ⟨_, rfl, _, rfl, _, rfl, _, rfl, by rw [wl]; omega, ?_⟩
      rw [slice_to _ _ (by rw [hl]; exact ab)]
      refine ⟨_, rfl, _, rfl, letS, _, 97 + k, rfl, rfl, (by omega), (by omega), (by rw [letS_len]; omega), letS_get _ (by omega), ?_⟩
      have k1 : (PySem.Str.mk ((wCs z (z % 7).toNat).take (wAt z)).toArray).length ≤ 6 := by
        show ((wCs z (z % 7).toNat).take (wAt z)).toArray.size ≤ 6
        rw [List.size_toArray, List.length_take]
        omega
      have k2 : (PySem.Str.mk ((wCs z (z % 7).toNat).drop (wAt z)).toArray).length ≤ 6 := by
        show ((wCs z (z % 7).toNat).drop (wAt z)).toArray.size ≤ 6
        rw [List.size_toArray, List.length_drop]
        omega
      refine ⟨_, _, rfl, rfl, by show _ + 1 ≤ _; omega, _, rfl, _, rfl, _, rfl, _, rfl, by rw [wl]; omega, ?_⟩
      rw [slice_from _ _ (by rw [hl]; exact ab)]
      refine ⟨_, _, rfl, rfl, ?_, ?_⟩
      · show ((((wCs z (z % 7).toNat).take (wAt z)).toArray ++ #[97 + k]).size + _) ≤ _
        rw [Array.size_append]
        have k1' : ((wCs z (z % 7).toNat).take (wAt z)).toArray.size ≤ 6 := k1
        show _ + 1 + _ ≤ _
        omega
      · have e : ((PySem.Str.mk ((wCs z (z % 7).toNat).take (wAt z)).toArray ++ ⟨#[97 + k]⟩) ++ ⟨((wCs z (z % 7).toNat).drop (wAt z)).toArray⟩ : Str) = nm64 z k := by
          show (⟨(((wCs z (z % 7).toNat).take (wAt z)).toArray ++ #[97 + k]) ++ ((wCs z (z % 7).toNat).drop (wAt z)).toArray⟩ : Str) = ⟨(nCs z k).toArray⟩
          unfold nCs
          rw [show (z % 7).toNat = wN z from rfl]
          simp
        rw [e]
        exact q _ u
end
end K65
namespace K65
open PySem L2 Lib Fr Op
seal PE PT PW PA PS PSs PG PGs PI PO PIfs
section
variable {P : Program} {w : World} {K : PySem.W.Frag} {mg : Str → Option Value} {base : Heap} {ad : Adr} {c : Bool}
theorem c__law_stock (T : Txt K mg ad) : CalB P w K mg base true 3 "_law_stock" ["_law_source_here", "_law_most"] (spStk K) := by
  have C__law_draw := c__law_draw (P := P) (w := w) (base := base) T
  have C__law_part := c__law_part (P := P) (w := w) (base := base) T
  have C__law_name := c__law_name (P := P) (w := w) (base := base) T
  refine T.t__law_stock.calN sc__law_stock (fun _ _ _ _ _ _ => by2 fun _ _ => rfl) (fun vs H Q E h => ?_) (fun f cdv A outer s H vs Q E hr h => ?_)
  · obtain ⟨_, _, rfl, _⟩ := h; rfl
  obtain ⟨d, m, rfl, hd, m1, m4, q⟩ := h
  refine ⟨_, (pss_cons (ps_set (i := 2) sc__law_stock.nd rfl (by first | exact Or.inl rfl | exact Or.inr rfl) (pe_cB C__law_draw (hr.mono (by decide)) pass01 (pa_name (pv 0) (pa_bin (pe_op op_pow pe_int pe_int) pa_nil)))) (pss_cons (ps_set (i := 3) sc__law_stock.nd rfl (by first | exact Or.inl rfl | exact Or.inr rfl) (pe_lst pa_nil)) (pss_cons (ps_for PassesOwn.never rfl (pi_range1 rfl T.range (pa_bin (pe_op op_add pe_int (pe_cB C__law_draw (hr.mono (by decide)) pass01 (pa_name (pv 0) (pa_name (pv 1) pa_nil)))) pa_nil)) (pg_name (i := 4) sc__law_stock.nd rfl (by first | exact Or.inl rfl | exact Or.inr rfl)) (pss_cons (ps_set (i := 5) sc__law_stock.nd rfl (Or.inl rfl) (pe_cB C__law_part (hr.mono (by decide)) pass01 (pa_name (pv 0) pa_nil))) (pss_cons (ps_if (pt_cmpR op_eq (pe_ix ix_tup (pv 5) pe_int (fun _ _ => rfl)) pe_int (nomark _)) (pss_one (ps_set (i := 5) sc__law_stock.nd rfl (Or.inl rfl) (pe_tup (pa_un (pe_un un_neg pe_int) (pa_const pe_int pa_nil))))) pss_nil) (pss_one (ps_expr (pe_bm PySem.F.plainAttrs_list PySem.F.slot_list_append PySem.F.type_list_append mt_append (pv 3) (pa_tuple (pe_tup (pa_call (pe_cB C__law_name (hr.mono (by decide)) pass01 (pa_name (pv 2) (pa_name (pv 4) pa_nil))) (pa_name (pv 5) pa_nil))) pa_nil))))))) (pss_one (ps_ret (pv 3)))))), ?_⟩
  refine ⟨_, rfl, _, _, rfl, rfl, ⟨by decide, by decide, by decide⟩, d, _, rfl, hd, ⟨by decide, by decide⟩, fun z H1 z0 z1 hd1 sd1 => ?_⟩
  have z1 : z < 1000000 := z1
  refine ⟨(by show 0 ≤ sizeLine; decide), fun l hl => ?_⟩
  have u2 := same_new hl (.lst [])
  have l2 : upd H1 l (.lst []) l = some (.lst []) := upd_same
  have nl := hd1.nd hl
  have hl0 := sd_free sd1 nl hl
  have hd2 := hd1.keep u2
  have sd2 := sd_put sd1 hl0 (.lst [])
  generalize upd H1 l (.lst []) = H2 at l2 hd2 sd2 ⊢
  refine ⟨_, rfl, _, rfl, d, m, rfl, hd2, ⟨by omega, by omega⟩, fun n H3 n0 n1 hd3 sd3 => ?_⟩
  refine ⟨_, _, rfl, rfl, _, rfl, by omega, by omega, ?_⟩
  have nn : (1 + n).toNat ≤ 4 := by omega
  have nn1 : 1 ≤ (1 + n).toNat := by omega
  refine for_range (lo := 0) (n := (1 + n).toNat) (fun i σ H' => ∃ c4 c5 ks st, σ = [some (.ref d), some (.int m), some (.int z), some (.ref l), c4, c5] ∧ SD d H H' ∧ SrcA H' d ∧ H' l = some (.lst ks) ∧ DVs K H' ks (st.map kindD) ∧ NStock z st ∧ st.length = i) ⟨_, _, [], [], rfl, sd2.trans sd3, hd3, sd3 _ _ nl l2, .nil, NStock.nil z, rfl⟩ ?_ ?_
  · rintro i σ H' hi ⟨c4, c5, ks, st, rfl, sd, hdh, hlh, hks, ns, len⟩
    have kl : ks.length = st.length := by have := hks.len; rw [List.length_map] at this; exact this
    refine ⟨_, rfl, d, rfl, hdh, fun v H4 q0 hd4 sd4 hv bq => ?_⟩
    have hl4 := sd4 _ _ nl hlh
    have hk4 := dvs_keepT (hdh.t sd4) (noLs_map (fun _ => rfl) st) hks
    have s04 := sd.trans sd4
    obtain ⟨b, x1, x2, rfl, hb, g1, g2⟩ := DV.t2 hv
    obtain rfl := DV.int_of g1
    refine ⟨_, rfl, b, _, _, _, rfl, rfl, hb, rfl, rfl, _, rfl, ?_⟩
    have i26 : i < 26 := by omega
    have last : ∀ (v : V) (H5 : Hp) (q0 : Rat) (p6 : Addr) (H6 : Hp), SD d H H5 → SrcA H5 d → H5 l = some (.lst ks) → DVs K H5 ks (st.map kindD) → DV K H5 v (frD q0) → q0 ≠ 0 → Bd 7 q0 → Same H5 H6 → ∀ (hp6 : H6 p6 = none),
        (∃ c4 c5 ks' st', ([some (.ref d), some (.int m), some (.int z), some (.ref l), some (.int (0 + (i : Int))), some v] : St) = [some (.ref d), some (.int m), some (.int z), some (.ref l), c4, c5] ∧ SD d H (upd (upd H6 p6 (.tup [.str (nm64 z i), v])) l (.lst (ks ++ [.ref p6]))) ∧ SrcA (upd (upd H6 p6 (.tup [.str (nm64 z i), v])) l (.lst (ks ++ [.ref p6]))) d ∧ (upd (upd H6 p6 (.tup [.str (nm64 z i), v])) l (.lst (ks ++ [.ref p6]))) l = some (.lst ks') ∧ DVs K (upd (upd H6 p6 (.tup [.str (nm64 z i), v])) l (.lst (ks ++ [.ref p6]))) ks' (st'.map kindD) ∧ NStock z st' ∧ st'.length = i + 1) := by
      intro v H5 q0 p6 H6 s5 hd5 hl5 hk5 hv nz bq s6 hp6
      have d7 : DV K (upd H6 p6 (.tup [.str (nm64 z i), v])) (.ref p6) (kindD (nm64 z st.length, q0)) := by
        rw [len]
        exact DV.upd2 hp6 (.str _) (hv.keep s6)
      have s7 := s6.trans (same_new hp6 (.tup [.str (nm64 z i), v]))
      generalize upd H6 p6 (.tup [.str (nm64 z i), v]) = H7 at d7 s7 ⊢
      have hl7 := s7 _ _ hl5
      have s07 : SD d H H7 := fun b' o n e => s7 _ _ (s5 _ _ n e)
      refine ⟨_, _, ks ++ [.ref p6], st ++ [(nm64 z st.length, q0)], rfl, sd_put s07 hl0 _, ?_, upd_same, ?_, ns.push nz bq, by rw [List.length_append, len]; rfl⟩
      · obtain ⟨a', b', h1, h2⟩ := (hd5.keep s7).x
        exact ⟨a', b', by rw [upd_ne (Ne.symm nl)]; exact h1, h2⟩
      · rw [List.map_append]
        exact dvs_keepT (sameT_upd hl7 _) (by rw [← List.map_append]; exact noLs_map (fun _ => rfl) _) ((hk5.keep s7).append (.cons d7 .nil))
    by_cases hz : q0 = 0
    · refine iteT' (by rw [decI]; exact decide_eq_true (by rw [hz]; rfl)) ⟨_, rfl, (by show 2 ≤ sizeLine; decide), fun p5 hp5 => ?_⟩
      have u5 := same_new hp5 (.tup [.int (-2), .int 3])
      have d5 : DV K (upd H4 p5 (.tup [.int (-2), .int 3])) (.ref p5) (frD (-2 / 3)) := by
        have e : frD (-2 / 3) = .tuple [.int (-2), .int 3] := frD_is (b := 3) (by decide +kernel) (by decide +kernel)
        rw [e]
        exact .tup (SqT.of upd_same) (.cons (.int _) (.cons (.int _) .nil))
      have hl5 := u5 _ _ hl4
      have hk5 := hk4.keep u5
      have hd5 := hd4.keep u5
      have s05 : SD d H (upd H4 p5 (.tup [.int (-2), .int 3])) := fun b' o n e => u5 _ _ (s04 _ _ n e)
      generalize upd H4 p5 (.tup [.int (-2), .int 3]) = H5 at d5 hl5 hk5 hd5 s05 ⊢
      refine ⟨_, rfl, .inl ⟨rfl, _, SqL.of hl5⟩, _, rfl, _, rfl, z, i, by rw [Int.zero_add]; rfl, i26, z0, z1, fun H6 s6 => ⟨_, rfl, (by show 2 ≤ sizeLine; decide), fun p6 hp6 => ?_⟩⟩
      refine ⟨l, ks, _, rfl, rfl, (s6.trans (same_new hp6 _)) _ _ hl5, small1000 (by omega), ?_⟩
      exact last _ H5 (-2 / 3) p6 H6 s05 hd5 hl5 hk5 d5 (by decide +kernel) ⟨by decide +kernel, by decide +kernel⟩ s6 hp6
    · refine iteF' (by rw [decI]; exact decide_eq_false (fun e => hz (Rat.num_eq_zero.mp e))) ?_
      refine ⟨_, rfl, .inl ⟨rfl, _, SqL.of hl4⟩, _, rfl, _, rfl, z, i, by rw [Int.zero_add]; rfl, i26, z0, z1, fun H6 s6 => ⟨_, rfl, (by show 2 ≤ sizeLine; decide), fun p6 hp6 => ?_⟩⟩
      refine ⟨l, ks, _, rfl, rfl, (s6.trans (same_new hp6 _)) _ _ hl4, small1000 (by omega), ?_⟩
      exact last _ H4 q0 p6 H6 s04 hd4 hl4 hk4 hv hz bq s6 hp6
  · rintro σ H' ⟨c4, c5, ks, st, rfl, sd, hdh, hlh, hks, ns, len⟩
    exact ⟨_, rfl, q l ks z st H' hdh sd hl0 hlh hks ns (by omega) (by omega)⟩
theorem c__law_gaps (T : Txt K mg ad) : CalB P w K mg base true 3 "_law_gaps" ["_law_source_here", "_law_most"] (spGps K) := by
  have C__law_draw := c__law_draw (P := P) (w := w) (base := base) T
  have C__law_part := c__law_part (P := P) (w := w) (base := base) T
  refine T.t__law_gaps.calN sc__law_gaps (fun _ _ _ _ _ _ => by2 fun _ _ => rfl) (fun vs H Q E h => ?_) (fun f cdv A outer s H vs Q E hr h => ?_)
  · obtain ⟨_, _, rfl, _⟩ := h; rfl
  obtain ⟨d, m, rfl, hd, m1, m4, q⟩ := h
  refine ⟨_, (pss_cons (ps_set (i := 2) sc__law_gaps.nd rfl (by first | exact Or.inl rfl | exact Or.inr rfl) (pe_lst pa_nil)) (pss_cons (ps_for PassesOwn.never rfl (pi_range1 rfl T.range (pa_bin (pe_op op_add pe_int (pe_cB C__law_draw (hr.mono (by decide)) pass01 (pa_name (pv 0) (pa_bin (pe_op op_add (pv 1) pe_int) pa_nil)))) pa_nil)) (pg_name (i := 3) sc__law_gaps.nd rfl (by first | exact Or.inl rfl | exact Or.inr rfl)) (pss_one (ps_expr (pe_bm PySem.F.plainAttrs_list PySem.F.slot_list_append PySem.F.type_list_append mt_append (pv 2) (pa_sub (pe_ix ix_list (pe_lst (pa_tuple (pe_tup (pa_const pe_int (pa_const pe_int pa_nil))) (pa_call (pe_cB C__law_part (hr.mono (by decide)) pass01 (pa_name (pv 0) pa_nil)) pa_nil))) (pe_callTy call_int1 rfl T.int bt_int (pa_cmp (pe_cmpR op_gt (pe_cB C__law_draw (hr.mono (by decide)) pass01 (pa_name (pv 0) (pa_const pe_int pa_nil))) pe_int (nomark _)) pa_nil)) (fun _ _ => rfl)) pa_nil))))) (pss_one (ps_ret (pv 2))))), ?_⟩
  refine ⟨(by show 0 ≤ sizeLine; decide), fun l hl => ?_⟩
  have u2 := same_new hl (.lst [])
  have l2 : upd H l (.lst []) l = some (.lst []) := upd_same
  have nl := hd.nd hl
  have hd2 := hd.keep u2
  have sd2 := sd_put (SD.refl d H) hl (.lst [])
  generalize upd H l (.lst []) = H2 at l2 hd2 sd2 ⊢
  refine ⟨_, rfl, _, rfl, _, _, rfl, rfl, d, _, rfl, hd2, ⟨by omega, by omega⟩, fun n H3 n0 n1 hd3 sd3 => ?_⟩
  refine ⟨_, _, rfl, rfl, _, rfl, by omega, by omega, ?_⟩
  have nn : (1 + n).toNat ≤ 5 := by omega
  have nn1 : 1 ≤ (1 + n).toNat := by omega
  refine for_range (lo := 0) (n := (1 + n).toNat) (fun i σ H' => ∃ (c3 : Option V) (xs : List V) (gs : List Rat), σ = [some (.ref d), some (.int m), some (.ref l), c3] ∧ SD d H H' ∧ SrcA H' d ∧ H' l = some (.lst xs) ∧ DVs K H' xs (gs.map frD) ∧ (∀ g ∈ gs, Bd 7 g) ∧ gs.length = i) ⟨_, [], [], rfl, sd2.trans sd3, hd3, sd3 _ _ nl l2, .nil, (fun _ h => nomatch h), rfl⟩ ?_ ?_
  · rintro i σ H' hi ⟨c3, xs, gs, rfl, sd, hdh, hlh, hxs, gb, len⟩
    have kl : xs.length = gs.length := by have := hxs.len; rw [List.length_map] at this; exact this
    refine ⟨_, rfl, .inl ⟨rfl, _, SqL.of hlh⟩, (by show 2 ≤ sizeLine; decide), fun p4 hp4 => ?_⟩
    have u4 := same_new hp4 (.tup [.int 0, .int 1])
    have d4 : DV K (upd H' p4 (.tup [.int 0, .int 1])) (.ref p4) (frD 0) := fr01
    have hl4 := u4 _ _ hlh
    have hx4 := hxs.keep u4
    have hd4 := hdh.keep u4
    have s04 : SD d H (upd H' p4 (.tup [.int 0, .int 1])) := fun b' o n e => u4 _ _ (sd _ _ n e)
    generalize upd H' p4 (.tup [.int 0, .int 1]) = H4 at d4 hl4 hx4 hd4 s04 ⊢
    refine ⟨_, rfl, d, rfl, hd4, fun v H5 q0 hd5 sd5 hv bq => ?_⟩
    have hl5 := sd5 _ _ nl hl4
    have hx5 := dvs_keepT (hd4.t sd5) (noLs_map (fun _ => rfl) gs) hx4
    have d5 := hd4.dv sd5 d4
    have s05 := s04.trans sd5
    refine ⟨(by show 2 ≤ sizeLine; decide), fun p6 hp6 => ?_⟩
    have u6 := same_new hp6 (.lst [.ref p4, v])
    have l6 : upd H5 p6 (.lst [.ref p4, v]) p6 = some (.lst [.ref p4, v]) := upd_same
    have hl6 := u6 _ _ hl5
    have hx6 := hx5.keep u6
    have d6 := d5.keep u6
    have v6 := hv.keep u6
    have hd6 := hd5.keep u6
    have n6 := hd5.nd hp6
    have s06 : SD d H (upd H5 p6 (.lst [.ref p4, v])) := fun b' o n e => u6 _ _ (s05 _ _ n e)
    generalize upd H5 p6 (.lst [.ref p4, v]) = H6 at l6 hl6 hx6 d6 v6 hd6 s06 ⊢
    refine ⟨_, rfl, d, 4, rfl, hd6, ⟨by decide, by decide⟩, fun y H7 y0 y1 hd7 sd7 => ?_⟩
    have hl7 := sd7 _ _ nl hl6
    have l7 := sd7 _ _ n6 l6
    have hx7 := dvs_keepT (hd6.t sd7) (noLs_map (fun _ => rfl) gs) hx6
    have d7 := hd6.dv sd7 d6
    have v7 := hd6.dv sd7 v6
    have s07 := s06.trans sd7
    refine ⟨_, _, rfl, rfl, .inr ⟨_, rfl, ?_⟩⟩
    obtain ⟨w', g', ha, hw, hb⟩ : ∃ (w' : V) (g' : Rat), atI [V.ref p4, v] (if decide (0 < y) = true then 1 else 0) = some w' ∧ DV K H7 w' (frD g') ∧ Bd 7 g' := by
      by_cases hy : 0 < y
      · rw [if_pos (decide_eq_true hy)]; exact ⟨v, q0, rfl, v7, bq⟩
      · rw [if_neg (by rw [decide_eq_true_eq]; exact hy)]; exact ⟨_, 0, rfl, d7, ⟨by decide +kernel, by decide +kernel⟩⟩
    refine ⟨p6, _, _, w', rfl, rfl, SqL.of l7, ha, l, xs, _, rfl, rfl, hl7, small1000 (by omega), ?_⟩
    refine ⟨_, xs ++ [w'], gs ++ [g'], rfl, sd_put s07 hl _, ?_, upd_same, ?_, fun g hg => ?_, by rw [List.length_append, len]; rfl⟩
    · obtain ⟨a', b', h1, h2⟩ := hd7.x
      exact ⟨a', b', by rw [upd_ne (Ne.symm nl)]; exact h1, h2⟩
    · rw [List.map_append]
      exact dvs_keepT (sameT_upd hl7 _) (by rw [← List.map_append]; exact noLs_map (fun _ => rfl) _) (hx7.append (.cons hw .nil))
    · rcases List.mem_append.mp hg with h | h
      · exact gb g h
      · rw [List.mem_singleton.mp h]; exact hb
  · rintro σ H' ⟨c3, xs, gs, rfl, sd, hdh, hlh, hxs, gb, len⟩
    rcases gs with _ | ⟨g0, gs⟩
    · simp at len; omega
    · simp only [List.length_cons] at len
      exact ⟨_, rfl, q l xs g0 gs H' hdh sd hl hlh hxs (by omega) gb⟩
end
end K65
namespace K65
open PySem L2 Lib Fr Op
seal PE PT PW PA PS PSs PG PGs PI PO PIfs
section
variable {P : Program} {w : World} {K : PySem.W.Frag} {mg : Str → Option Value} {base : Heap} {ad : Adr} {c : Bool}
theorem c__law_choices (T : Txt K mg ad) : CalB P w K mg base true 1 "_law_choices" ["_law_stock_here", "_law_slots"] (spChs K) := by
  refine T.t__law_choices.calN sc__law_choices (fun _ _ _ _ _ _ => by2 fun _ _ => rfl) (fun vs H Q E h => ?_) (fun f cdv A outer s H vs Q E hr h => ?_)
  · obtain ⟨_, _, _, _, rfl, _⟩ := h; rfl
  obtain ⟨l, ks, st, n, rfl, hl, hks, h4, hn, q⟩ := h
  refine ⟨_, (pss_cons (ps_set (i := 2) sc__law_choices.nd rfl (Or.inl rfl) (pe_lst (pa_list (pe_lst pa_nil) pa_nil))) (pss_cons (ps_for PassesOwn.never rfl (pi_range1 rfl T.range (pa_name (pv 1) pa_nil)) (pg_name (i := 3) sc__law_choices.nd rfl (by first | exact Or.inl rfl | exact Or.inr rfl)) (pss_cons (ps_set (i := 4) sc__law_choices.nd rfl (Or.inl rfl) (pe_lst pa_nil)) (pss_cons (ps_for PassesOwn.never rfl (pi_list (pe_op op_cat (pe_lst (pa_const pe_str pa_nil)) (pe_comp ["_law_kind"] [none] rfl (pi_list (pv 0)) (fun _ _ _ _ _ => (pg_name (i := 0) (show List.Nodup [("_law_kind" : Str)] by decide) rfl (by first | exact Or.inl rfl | exact Or.inr rfl))) (fun _ _ _ _ _ => pifs_nil) (fun _ _ _ _ _ => (pe_ix (ix_tupK (K := K)) (pv 0) pe_int (fun _ _ => rfl))) (cap_nil (by decide) (by decide)) (by decide) rfl (by decide) rfl (nocap rfl)))) (pg_name (i := 5) sc__law_choices.nd rfl (by first | exact Or.inl rfl | exact Or.inr rfl)) (pss_one (ps_set (i := 4) sc__law_choices.nd rfl (Or.inl rfl) (pe_op op_cat (pv 4) (pe_compX ["_law_choice", "_law_name_here"] [none, some 5] rfl (pi_list (pv 2)) (fun _ _ _ _ _ _ => (pg_name (i := 0) (show List.Nodup [("_law_choice" : Str), ("_law_name_here" : Str)] by decide) rfl (by first | exact Or.inl rfl | exact Or.inr rfl))) (fun _ _ _ _ _ _ => pifs_nil) (fun _ _ _ _ _ _ => (pe_op op_cat (pv 0) (pe_lst (pa_name (pv 1) pa_nil)))) (cap_def (hcell := by decide) (hf := (show ∀ y : Str × NameKind, y ∈ _ → y.2 = NameKind.free → (defScope s__law_choices).names.lookup y.1 = some NameKind.cell by decide))) (by decide) rfl (by decide) rfl (fun i j h => by
      rcases i with _ | _ | i
      · simp at h
      · simp at h; subst h; exact ⟨_, rfl, rfl, rfl, rfl⟩
      · simp at h)))))) (pss_one (ps_set (i := 2) sc__law_choices.nd rfl (Or.inl rfl) (pv 4)))))) (pss_one (ps_ret (pv 2))))), ?_⟩
  have hkl : ks.length = st.length := by have := hks.len; rw [List.length_map] at this; exact this
  have nl : (nms st).length = st.length + 1 := by unfold nms; rw [List.length_cons, List.length_map]
  refine ⟨(by show 0 ≤ sizeLine; decide), fun p1 hp1 => ?_⟩
  have u1 := same_new hp1 (.lst [])
  have m1 : upd H p1 (.lst []) p1 = some (.lst []) := upd_same
  generalize upd H p1 (.lst []) = H1 at u1 m1 ⊢
  refine ⟨(by show 1 ≤ sizeLine; decide), fun p2 hp2 => ?_⟩
  have u2 := same_new hp2 (.lst [.ref p1])
  have m2 : upd H1 p2 (.lst [.ref p1]) p2 = some (.lst [.ref p1]) := upd_same
  have m1 := u2 _ _ m1
  have n2 := u1.free hp2
  have t2 := u1.trans u2
  generalize upd H1 p2 (.lst [.ref p1]) = H2 at m1 m2 t2 ⊢
  refine ⟨_, rfl, _, rfl, by omega, by omega, ?_⟩
  refine for_range (lo := 0) (n := ((n : Nat) : Int).toNat) (fun i σ H' => ∃ (fo : Addr) (xs : List V) (c3 c4 c5 : Option V), σ = [some (.ref l), some (.int (n : Int)), some (.ref fo), c3, c4, c5] ∧ Same H H' ∧ H fo = none ∧ H' fo = some (.lst xs) ∧ LcAt (fun l => H l = none) H' xs (lchs st i)) ⟨p2, _, _, _, _, rfl, t2, n2, m2, .cons hp1 m1 .nil⟩ ?_ ?_
  · rintro i σ H' hi ⟨fo, xs, c3, c4, c5, rfl, s', nfo, hfo, lc⟩
    have hi4 : i < 4 := by omega
    have xl := lc.len
    have c6 := lchs_len st i
    have c5' := pow_5 h4 (show i ≤ 4 by omega)
    have c5n := pow_5 h4 (show i + 1 ≤ 4 by omega)
    refine ⟨(by show 0 ≤ sizeLine; decide), fun p3 hp3 => ?_⟩
    have u3 := same_new hp3 (.lst [])
    have m3 : upd H' p3 (.lst []) p3 = some (.lst []) := upd_same
    have n3 := s'.free hp3
    have t3 := s'.trans u3
    have hfo3 := u3 _ _ hfo
    have lc3 := lc.keep u3
    generalize upd H' p3 (.lst []) = H3 at m3 t3 hfo3 lc3 ⊢
    refine ⟨(by show 1 ≤ sizeLine; decide), fun p4 hp4 => ?_⟩
    have u4 := same_new hp4 (.lst [.str ""])
    have m4 : upd H3 p4 (.lst [.str ""]) p4 = some (.lst [.str ""]) := upd_same
    generalize upd H3 p4 (.lst [.str ""]) = H4 at u4 m4 ⊢
    have t4 := t3.trans u4
    refine ⟨_, rfl, l, rfl, ⟨_, SqL.of (t4 _ _ hl)⟩, ?_⟩
    refine comp_list0 (K := K) (a := l) (xs := ks) (fun j σ ys H' => ∃ c0, σ = [c0] ∧ ys = ((st.take j).map (·.1)).map V.str ∧ Same H4 H') ⟨_, rfl, rfl, Same.refl _⟩ ?_ ?_ ?_
    · rintro j σ ys Hj hj ⟨c0, rfl, rfl, s1⟩
      refine ⟨?_, SqL.of (s1 _ _ (t4 _ _ hl))⟩
      rw [List.length_map, List.length_map, List.length_take]
      exact Nat.le_of_lt (small1000 (by omega))
    · rintro j z σ ys Hj hj ⟨c0, rfl, rfl, s1⟩
      obtain ⟨d, hd, hdx⟩ := hks.get hj
      rw [List.getElem?_map] at hd
      cases e : st[j]? with
      | none => rw [e] at hd; cases hd
      | some k =>
        rw [e] at hd
        cases hd
        obtain ⟨b, x1, x2, rfl, hb, g1, g2⟩ := DV.t2 (show DV K Hj z (.tuple [.str k.1, frD k.2]) from hdx.keep (t4.trans s1))
        obtain rfl := DV.str_of g1
        refine ⟨_, rfl, b, _, _, _, rfl, rfl, hb, atI0, nx (lt_of_get hj) ⟨_, rfl, ?_, s1⟩⟩
        rw [List.take_add_one, e, List.map_append, List.map_append]
        rfl
    rintro σ ys Hj p5 ⟨c0, rfl, rfl, s1⟩ hp5
    have e0 : st.take ks.length = st := by rw [hkl, List.take_length]
    rw [e0]
    have u5 := same_new hp5 (.lst ((st.map (·.1)).map V.str))
    have m5 : upd Hj p5 (.lst ((st.map (·.1)).map V.str)) p5 = some (.lst ((st.map (·.1)).map V.str)) := upd_same
    have w5 := s1.trans u5
    generalize upd Hj p5 (.lst ((st.map (·.1)).map V.str)) = H5 at m5 w5 ⊢
    have lz : 1 + ((st.map (·.1)).map V.str).length ≤ sizeLine := by
      rw [List.length_map, List.length_map]
      exact Nat.le_of_lt (small1000 (by omega))
    refine ⟨p4, p5, _, _, rfl, rfl, w5 _ _ m4, m5, (by simpa using lz), fun p6 hp6 => ⟨p6, rfl, ⟨_, SqL.of upd_same⟩, ?_⟩⟩
    have u6 := same_new hp6 (.lst ([.str ""] ++ (st.map (·.1)).map V.str))
    have m6 : upd H5 p6 (.lst ([.str ""] ++ (st.map (·.1)).map V.str)) p6 = some (.lst ((nms st).map V.str)) := upd_same
    have w6 := u4.trans (w5.trans u6)
    have t6 := t3.trans w6
    have hfo6 := w6 _ _ hfo3
    have lc6 := lc3.keep w6
    have m36 := w6 _ _ m3
    generalize upd H5 p6 (.lst ([.str ""] ++ (st.map (·.1)).map V.str)) = H6 at m6 t6 hfo6 lc6 m36 ⊢
    refine for_list (K := K) (a := p6) (xs := (nms st).map V.str) (fun j σ H' => ∃ (g : Addr) (ws : List V) (c5 : Option V), σ = [some (.ref l), some (.int (n : Int)), some (.ref fo), some (.int (0 + (i : Int))), some (.ref g), c5] ∧ Same H6 H' ∧ H g = none ∧ H' g = some (.lst ws) ∧ LcAt (fun l => H l = none) H' ws (((nms st).take j).flatMap fun z => (lchs st i).map (· ++ [z]))) ⟨p3, _, _, rfl, Same.refl _, n3, m36, .nil⟩ ?_ ?_ ?_
    · rintro j σ H7 hj ⟨g, ws, c5, rfl, s7, _⟩
      exact SqL.of (s7 _ _ m6)
    · rintro j zv σ H7 hj ⟨g, ws, c5, rfl, s7, ng, hg, lw⟩
      rw [List.getElem?_map] at hj
      cases ez : (nms st)[j]? with
      | none => rw [ez] at hj; cases hj
      | some z =>
      rw [ez] at hj
      cases hj
      have jl := lt_of_get ez
      refine ⟨_, rfl, _, rfl, fo, rfl, ⟨_, SqL.of (s7 _ _ hfo6)⟩, ?_⟩
      refine comp_list (K := K) (a := fo) (xs := xs) (fun k σ ys H8 => ∃ c0, σ = [c0, some (.str z)] ∧ Same H7 H8 ∧ LcAt (fun l => H l = none) H8 ys (((lchs st i).take k).map (· ++ [z]))) ⟨_, rfl, Same.refl _, .nil⟩ ?_ ?_ ?_
      · rintro k σ ys H8 hk ⟨c0, rfl, s8, ly⟩
        refine ⟨?_, SqL.of (s8 _ _ (s7 _ _ hfo6))⟩
        have h1 := ly.len
        rw [List.length_map, List.length_take] at h1
        exact Nat.le_of_lt (small1000 (by omega))
      · rintro k xv σ ys H8 hk ⟨c0, rfl, s8, ly⟩
        obtain ⟨lx, cx, rfl, ec, nx', hlx⟩ := lc6.get hk
        have w8 := s7.trans s8
        have cl : cx.length = i := ((lchs_mem st i cx).mp (List.mem_of_getElem? ec)).1
        refine ⟨_, rfl, _, rfl, (by show 1 ≤ sizeLine; decide), fun r1 hr1 => ?_⟩
        have v1 := same_new hr1 (.lst [.str z])
        have k1 : upd H8 r1 (.lst [.str z]) r1 = some (.lst [.str z]) := upd_same
        generalize upd H8 r1 (.lst [.str z]) = H9 at v1 k1 ⊢
        refine ⟨lx, r1, _, _, rfl, rfl, v1 _ _ (w8 _ _ hlx), k1, Nat.le_of_lt (small1000 (by simp only [List.length_map, List.length_cons, List.length_nil]; omega)), fun r2 hr2 => nx (lt_of_get hk) ⟨_, rfl, s8.trans (v1.trans (same_new hr2 _)), ?_⟩⟩
        rw [List.take_add_one, ec, List.map_append]
        have v2 := v1.trans (same_new hr2 (.lst (cx.map V.str ++ [.str z])))
        refine LcAt.snoc (N := fun l => H l = none) ?_ ?_ (ly.keep v2)
        · exact (t6.trans (w8.trans v1)).free hr2
        · rw [upd_same, List.map_append]; rfl
      · rintro σ ys H8 p7 ⟨c0, rfl, s8, ly⟩ hp7
        rw [xl, List.take_length] at ly
        have u7 := same_new hp7 (.lst ys)
        have m7 : upd H8 p7 (.lst ys) p7 = some (.lst ys) := upd_same
        have ly := ly.keep u7
        have w7 := s8.trans u7
        generalize upd H8 p7 (.lst ys) = H9 at m7 ly w7 ⊢
        have yl : ys.length ≤ 625 := by have := ly.len; rw [List.length_map, c6] at this; omega
        have fl : ws.length = j * (st.length + 1) ^ i := by
          rw [lw.len, len_flat (n := (st.length + 1) ^ i) _ fun z _ => by rw [List.length_map, c6], List.length_take, Nat.min_eq_left (by omega)]
        have yl' : ys.length = (st.length + 1) ^ i := by have := ly.len; rw [List.length_map, c6] at this; exact this
        have m1' : (j + 1) * (st.length + 1) ^ i ≤ (st.length + 1) * (st.length + 1) ^ i := Nat.mul_le_mul_right _ (by omega)
        rw [Nat.pow_succ, Nat.mul_comm] at c5n
        rw [Nat.succ_mul] at m1'
        refine ⟨g, p7, _, _, rfl, rfl, w7 _ _ hg, m7, ?_, fun p8 hp8 => ⟨p8, ws ++ ys, _, rfl, s7.trans (w7.trans (same_new hp8 _)), (t6.trans (s7.trans w7)).free hp8, upd_same, ?_⟩⟩
        · exact Nat.le_of_lt (small1000 (by omega))
        · rw [List.take_add_one, ez, List.flatMap_append]
          have v8 := same_new hp8 (.lst (ws ++ ys))
          simpa using LcAt.append (ly.keep v8) (lw.keep (w7.trans v8))
    · rintro σ H7 ⟨g, ws, c5, rfl, s7, ng, hg, lw⟩
      rw [List.length_map, List.take_length] at lw
      exact ⟨_, rfl, g, ws, _, _, _, rfl, t6.trans s7, ng, hg, lw⟩
  · rintro σ H' ⟨fo, xs, c3, c4, c5, rfl, s', nfo, hfo, lc⟩
    rw [Int.toNat_natCast] at lc
    exact ⟨_, rfl, q fo xs H' s' nfo hfo lc⟩
theorem c__law_many (T : Txt K mg ad) : CalB P w K mg base true 1 "_law_many" ["_law_choice"] (spMny K) := by
  refine T.t__law_many.calN sc__law_many (fun _ _ _ _ _ _ => by1 fun _ => rfl) (fun vs H Q E h => ?_) (fun f cdv A outer s H vs Q E hr h => ?_)
  · obtain ⟨_, _, rfl, _⟩ := h; rfl
  obtain ⟨l, c, rfl, hl, h10, q⟩ := h
  refine ⟨_, (pss_one (ps_ret (pe_callB call_len_seq rfl T.len bt_len (pa_cons (pe_comp ["_law_name_here"] [none] rfl (pi_list (pv 0)) (fun _ _ _ _ _ => (pg_name (i := 0) (show List.Nodup [("_law_name_here" : Str)] by decide) rfl (by first | exact Or.inl rfl | exact Or.inr rfl))) (fun _ _ _ _ _ => (pifs_one (pt_cmpR op_ne (pv 0) pe_str (nomark _)))) (fun _ _ _ _ _ => (pv 0)) (cap_nil (by decide) (by decide)) (by decide) rfl (by decide) rfl (nocap rfl)) pa_nil)))), ?_⟩
  refine ⟨_, rfl, l, rfl, ⟨_, hl⟩, ?_⟩
  refine comp_list (K := K) (a := l) (xs := c.map V.str) (fun i σ ys H' => ∃ c0, σ = [c0] ∧ ys = ((c.take i).filter fun z => !decide (z = ("" : Str))).map V.str ∧ H' = H) ⟨_, rfl, rfl, rfl⟩ ?_ ?_ ?_
  · rintro i σ ys H' hi ⟨c0, rfl, rfl, rfl⟩
    refine ⟨?_, hl⟩
    rw [List.length_map]
    have h2 := List.length_filter_le (fun z : Str => !decide (z = ("" : Str))) (c.take i)
    rw [List.length_take] at h2
    exact Nat.le_of_lt (small1000 (by omega))
  · rintro i v σ ys H' hi ⟨c0, rfl, rfl, rfl⟩
    have hi' := hi
    rw [List.getElem?_map] at hi
    cases ez : c[i]? with
    | none => rw [ez] at hi; cases hi
    | some z =>
    rw [ez] at hi
    cases hi
    have ht : ((c.take (i + 1)).filter fun z => !decide (z = ("" : Str))).map V.str = ((c.take i).filter fun z => !decide (z = ("" : Str))).map V.str ++ if (!decide (z = ("" : Str))) = true then [V.str z] else [] := by
      rw [List.take_add_one, ez, List.filter_append, List.map_append]
      congr 1
      show ([z].filter _).map _ = _
      rw [List.filter_cons]
      by_cases e : z = ("" : Str)
      · simp [e]
      · simp [e]
    refine ⟨_, rfl, rfl, _, rfl, ?_⟩
    by_cases e : z = ("" : Str)
    · rw [if_neg (by rw [decide_eq_true e]; decide), List.append_nil] at ht
      exact iteF' (by rw [decS, decide_eq_true e]; rfl) (nx (lt_of_get hi') ⟨_, rfl, ht.symm, rfl⟩)
    · rw [if_pos (by rw [decide_eq_false e]; rfl)] at ht
      exact iteT' (by rw [decS, decide_eq_false e]; rfl) ⟨_, rfl, nx (lt_of_get hi') ⟨_, rfl, ht.symm, rfl⟩⟩
  · rintro σ ys H' p ⟨c0, rfl, rfl, rfl⟩ hp
    rw [List.length_map, List.take_length]
    refine ⟨p, _, rfl, .inl (SqL.of upd_same), ?_⟩
    rw [List.length_map]
    exact q _ (same_new hp _)
theorem c__law_bench (T : Txt K mg ad) : CalB P w K mg base true 1 "_law_bench" ["_law_stock_here", "_law_gaps_here", "_law_choice"] (spBn64 K) := by
  refine T.t__law_bench.calN sc__law_bench (fun _ _ _ _ _ _ => by3 fun _ _ _ => rfl) (fun vs H Q E h => ?_) (fun f cdv A outer s H vs Q E hr h => ?_)
  · obtain ⟨_, _, _, _, _, _, _, _, _, rfl, _⟩ := h; rfl
  obtain ⟨ls, lg, lc, ks, gv, st, g0, gs, c, rfl, hls, hks, so, hlg, hgv, h4, hlc, cin, q⟩ := h
  refine ⟨_, (pss_cons (ps_set (i := 3) sc__law_bench.nd rfl (Or.inl rfl) (pe_callTy (call_dictP rfl) rfl T.dict bt_dict (pa_name (pv 0) pa_nil))) (pss_cons (ps_set (i := 4) sc__law_bench.nd rfl (Or.inl rfl) (pe_lst (pa_tuple (pe_tup (pa_const pe_str (pa_sub (pe_ix ix_list (pv 1) pe_int (fun _ _ => rfl)) pa_nil))) pa_nil))) (pss_cons (ps_for PassesOwn.never rfl (pi_range1 rfl T.range (pa_call (pe_callB call_len_seq rfl T.len bt_len (pa_name (pv 2) pa_nil)) pa_nil)) (pg_name (i := 5) sc__law_bench.nd rfl (by first | exact Or.inl rfl | exact Or.inr rfl)) (pss_cons (ps_if (pt_cmpR op_ne (pe_ix ix_list (pv 2) (pv 5) (fun _ _ => rfl)) pe_str (nomark _)) (pss_one (ps_expr (pe_bm PySem.F.plainAttrs_list PySem.F.slot_list_append PySem.F.type_list_append mt_append (pv 4) (pa_tuple (pe_tup (pa_const pe_str (pa_sub (pe_dget hr.units1 (pv 3) (pe_ix ix_list (pv 2) (pv 5) (fun _ _ => rfl)) (fun _ _ => rfl)) pa_nil))) pa_nil)))) pss_nil) (pss_one (ps_expr (pe_bm PySem.F.plainAttrs_list PySem.F.slot_list_append PySem.F.type_list_append mt_append (pv 4) (pa_tuple (pe_tup (pa_const pe_str (pa_sub (pe_ix ix_list (pv 1) (pe_op op_add (pv 5) pe_int) (fun _ _ => rfl)) pa_nil))) pa_nil)))))) (pss_one (ps_ret (pv 4)))))), ?_⟩
  obtain ⟨kvs, pa, ek, pg⟩ := pairs_of hks
  have hkl : kvs.length = st.length := by have := congrArg List.length ek; simpa using this
  have s4 := so.len.2
  have nd : (kvs.map (·.1)).Nodup := by rw [ek]; exact so.nd
  refine ⟨_, rfl, ls, ks, kvs, rfl, SqL.of hls, pa, by omega, fun pd hpd => ?_⟩
  have u1 := same_new hpd (.dK (heldV kvs))
  have m1 : upd H pd (.dK (heldV kvs)) pd = some (.dK (heldV kvs)) := upd_same
  generalize upd H pd (.dK (heldV kvs)) = H1 at u1 m1 ⊢
  have hgv' : DVs K H gv (frD g0 :: gs.map frD) := hgv
  obtain ⟨gx, gr, rfl, hgx, hgr⟩ := hgv'.cons_of
  refine ⟨_, rfl, lg, _, _, _, rfl, rfl, SqL.of (u1 _ _ hlg), atI0, (by show 2 ≤ sizeLine; decide), fun p2 hp2 => ?_⟩
  have u2 := same_new hp2 (.tup [.str "gap", gx])
  have d2 : DV K (upd H1 p2 (.tup [.str "gap", gx])) (.ref p2) (pcD (.gap g0)) := .tup (SqT.of upd_same) (.cons (.str _) (.cons (hgx.keep (u1.trans u2)) .nil))
  generalize upd H1 p2 (.tup [.str "gap", gx]) = H2 at u2 d2 ⊢
  refine ⟨(by show 1 ≤ sizeLine; decide), fun p3 hp3 => ?_⟩
  have u3 := same_new hp3 (.lst [.ref p2])
  have b3 : Bx K H2 p3 [.gap g0] (upd H2 p3 (.lst [.ref p2])) := ⟨u3, hp3, [.ref p2], upd_same, .cons (d2.keep u3) .nil⟩
  have t2 := u1.trans u2
  have m2 := u2 _ _ m1
  generalize upd H2 p3 (.lst [.ref p2]) = H3 at b3 ⊢
  have cl := cin.1
  refine ⟨_, rfl, lc, _, rfl, .inl ((hlc.keep t2).keep b3.s), _, rfl, by rw [List.length_map]; omega, by rw [List.length_map]; omega, ?_⟩
  have nn : (((c.map V.str).length : Nat) : Int).toNat = c.length := by rw [List.length_map, Int.toNat_natCast]
  refine for_range (lo := 0) (n := (((c.map V.str).length : Nat) : Int).toNat) (fun i σ H' => ∃ c5, σ = [some (.ref ls), some (.ref lg), some (.ref lc), some (.ref pd), some (.ref p3), c5] ∧ Bx K H2 p3 (dueB st g0 (gs.take i) (c.take i)) H') ⟨_, rfl, by rw [List.take_zero, List.take_zero]; exact b3⟩ ?_ ?_
  · rintro i σ H' hi ⟨c5, rfl, bx⟩
    rw [nn] at hi
    have ez : c[i]? = some c[i] := List.getElem?_eq_getElem hi
    have eg : gs[i]? = some gs[i] := List.getElem?_eq_getElem (by omega)
    have hz := cin.2 c[i] (List.getElem_mem hi)
    have ds := due_succ st g0 ez eg
    generalize c[i] = z at ez hz ds
    generalize gs[i] = gq at eg ds
    have lc' : SqL K H' lc (c.map V.str) := (hlc.keep t2).keep bx.s
    have az : atI (c.map V.str) (0 + (i : Int)) = some (.str z) := by rw [Int.zero_add]; exact atI_nat (by rw [List.getElem?_map, ez]; rfl)
    obtain ⟨gvv, hgi, hgd⟩ : ∃ gvv, gr[i]? = some gvv ∧ DV K H gvv (frD gq) := by
      have gl : gr.length = gs.length := by have := hgr.len; rw [List.length_map] at this; exact this
      have e1 : gr[i]? = some gr[i] := List.getElem?_eq_getElem (by omega)
      obtain ⟨d, hd, hx⟩ := hgr.get e1
      rw [List.getElem?_map, eg] at hd
      cases hd
      exact ⟨_, e1, hx⟩
    -- the gap at the end
    have fin : ∀ (H4 : Hp) (ps : List Pc), Bx K H2 p3 ps H4 → ps ++ [.gap gq] = dueB st g0 (gs.take (i + 1)) (c.take (i + 1)) → ps.length ≤ 500 → ∀ p5, H4 p5 = none → ∃ xs, H4 p3 = some (.lst xs) ∧ xs.length ≤ 500 ∧ Bx K H2 p3 (dueB st g0 (gs.take (i + 1)) (c.take (i + 1))) (upd (upd H4 p5 (.tup [.str "gap", gvv])) p3 (.lst (xs ++ [.ref p5]))) := by
      intro H4 ps b4 e4 l4 p5 hp5
      obtain ⟨xs, h1, h2⟩ := b4.ex
      have u5 := same_new hp5 (.tup [.str "gap", gvv])
      have hl := h2.len
      rw [List.length_map] at hl
      refine ⟨xs, h1, by omega, ?_⟩
      rw [← e4]
      refine Bx.more (b4.s.trans u5) b4.n (u5 _ _ h1) (h2.keep u5) (.cons ?_ .nil)
      exact .tup (SqT.of upd_same) (.cons (.str _) (.cons (hgd.keep (t2.trans (b4.s.trans u5))) .nil))
    have dl : (dueB st g0 (gs.take i) (c.take i)).length ≤ 21 := by
      have h1 := due_len st g0 (gs.take i) (c.take i)
      have h2 : (c.take i).length * (st.length + 1) ≤ 4 * 5 := Nat.mul_le_mul (by rw [List.length_take]; omega) (by omega)
      omega
    obtain ⟨xs, hx3, hxs⟩ := bx.ex
    have xl : xs.length ≤ 21 := by have := hxs.len; rw [List.length_map] at this; omega
    refine ⟨_, rfl, _, rfl, lc, _, _, _, rfl, rfl, lc', az, rfl, _, rfl, ?_⟩
    by_cases e : z = ("" : Str)
    · subst e
      have eq : dueB st g0 (gs.take i) (c.take i) ++ [.gap gq] = dueB st g0 (gs.take (i + 1)) (c.take (i + 1)) := by
        rw [ds]
        show _ = _ ++ (glassOf st "" ++ [Pc.gap gq])
        rw [glass_no so.nm, List.nil_append]
      refine iteF' (by rw [decS, decide_eq_true rfl]; rfl) ?_
      refine ⟨_, rfl, .inl ⟨rfl, _, SqL.of hx3⟩, _, rfl, _, rfl, _, _, rfl, rfl, lg, _, _, gvv, rfl, rfl, SqL.of ((t2.trans bx.s) _ _ hlg), ?_, (by show 2 ≤ sizeLine; decide), fun p5 hp5 => ?_⟩
      · rw [show (0 + (i : Int) + 1) = ((i + 1 : Nat) : Int) by omega]; exact atI_nat (xs := gx :: gr) (j := i + 1) hgi
      obtain ⟨ys, y1, y2, y3⟩ := fin H' _ bx eq (by omega) p5 hp5
      exact ⟨p3, ys, _, rfl, rfl, (same_new hp5 _) _ _ y1, small1000 (by omega), _, rfl, y3⟩
    · obtain ⟨k, hk, rfl⟩ : ∃ k ∈ st, z = k.1 := by
        rcases List.mem_cons.mp hz with h | h
        · exact absurd h e
        · obtain ⟨k, hk, rfl⟩ := List.mem_map.mp h
          exact ⟨k, hk, rfl⟩
      obtain ⟨j, hj⟩ := List.getElem?_of_mem hk
      obtain ⟨v, hv, hvd⟩ := pg j k hj
      have gv1 := valV_held nd hv
      have md : H' pd = some (.dK (heldV kvs)) := bx.s _ _ m2
      refine iteT' (by rw [decS, decide_eq_false e]; rfl) ?_
      refine ⟨_, rfl, .inl ⟨rfl, _, SqL.of hx3⟩, _, rfl, _, rfl, _, rfl, lc, _, _, _, rfl, rfl, lc', az, pd, v, rfl, ?_, (by show 2 ≤ sizeLine; decide), fun p4 hp4 => ?_⟩
      · have := DGet.k (k := .inr k.1) md
        rw [show valV (heldV kvs) (.inr k.1) = some v from gv1] at this
        exact this
      have u4 := same_new hp4 (.tup [.str "glass", v])
      have b4 : Bx K H2 p3 (dueB st g0 (gs.take i) (c.take i) ++ [.glass k.2]) (upd (upd H' p4 (.tup [.str "glass", v])) p3 (.lst (xs ++ [.ref p4]))) := by
        refine Bx.more (bx.s.trans u4) bx.n (u4 _ _ hx3) (hxs.keep u4) (.cons ?_ .nil)
        exact .tup (SqT.of upd_same) (.cons (.str _) (.cons (hvd.keep (t2.trans (bx.s.trans u4))) .nil))
      refine ⟨p3, xs, _, rfl, rfl, u4 _ _ hx3, small1000 (by omega), ?_⟩
      generalize upd (upd H' p4 (.tup [.str "glass", v])) p3 (.lst (xs ++ [.ref p4])) = H4 at b4 ⊢
      have eq : (dueB st g0 (gs.take i) (c.take i) ++ [.glass k.2]) ++ [.gap gq] = dueB st g0 (gs.take (i + 1)) (c.take (i + 1)) := by
        rw [ds]
        show _ = _ ++ (glassOf st k.1 ++ [Pc.gap gq])
        rw [glass_is so.nd hk, List.append_assoc]
      obtain ⟨zs, z1, z2⟩ := b4.ex
      refine ⟨_, rfl, .inl ⟨rfl, _, SqL.of z1⟩, _, rfl, _, rfl, _, _, rfl, rfl, lg, _, _, gvv, rfl, rfl, SqL.of ((t2.trans b4.s) _ _ hlg), ?_, (by show 2 ≤ sizeLine; decide), fun p5 hp5 => ?_⟩
      · rw [show (0 + (i : Int) + 1) = ((i + 1 : Nat) : Int) by omega]; exact atI_nat (xs := gx :: gr) (j := i + 1) hgi
      obtain ⟨ys, y1, y2, y3⟩ := fin H4 _ b4 eq (by rw [List.length_append, List.length_singleton]; omega) p5 hp5
      exact ⟨p3, ys, _, rfl, rfl, (same_new hp5 _) _ _ y1, small1000 (by omega), _, rfl, y3⟩
  · rintro σ H' ⟨c5, rfl, bx⟩
    rw [nn, List.take_length, List.take_of_length_le (by omega)] at bx
    obtain ⟨xs, h1, h2⟩ := bx.ex
    exact ⟨_, rfl, q p3 xs H' (t2.trans bx.s) (t2.free bx.n) h1 h2⟩
end
end K65
namespace K65
open PySem L2 Lib Fr Op
seal PE PT PW PA PS PSs PG PGs PI PO PIfs
section
variable {P : Program} {w : World} {K : PySem.W.Frag} {mg : Str → Option Value} {base : Heap} {ad : Adr} {c : Bool}
theorem c__law_brings (T : Txt K mg ad) : CalB P w K mg base true 5 "_law_brings" ["_law_bench_here", "_law_place", "_law_growth"] (spBrg K) := by
  have C__law_bent := c__law_bent (P := P) (w := w) (base := base) T
  refine T.t__law_brings.calN sc__law_brings (fun _ _ _ _ _ _ => by3 fun _ _ _ => rfl) (fun vs H Q E h => ?_) (fun f cdv A outer s H vs Q E hr h => ?_)
  · obtain ⟨_, _, _, _, _, _, _, rfl, _⟩ := h; rfl
  obtain ⟨lb, pv', gv, bs, ps, s', go, rfl, hlb, hbs, gd, l9, hpv, bs', hgv, q⟩ := h
  refine ⟨_, (pss_cons (ps_set (i := 3) sc__law_brings.nd rfl (Or.inl rfl) (pe_op op_cat (pe_lst (pa_tuple (pe_tup (pa_const pe_str (pa_name (pv 1) pa_nil))) pa_nil)) (pv 0))) (pss_cons (ps_if (pt_cmpR (op_neD hr.units) (pe_ix ix_tup (pe_cB C__law_bent (hr.mono (by decide)) pass01 (pa_name (pv 3) (pa_tuple (pe_tup (pa_tuple (pe_tup (pa_const pe_int (pa_const pe_int pa_nil))) (pa_tuple (pe_tup (pa_const pe_int (pa_const pe_int pa_nil))) pa_nil))) pa_nil))) pe_int (fun _ _ => rfl)) (pe_tup (pa_const pe_int (pa_const pe_int pa_nil))) (nomark _)) (pss_one (ps_ret pe_bl)) pss_nil) (pss_one (ps_ret (pe_or (pe_cmpR op_isN (pv 2) pe_non (nomark _)) (pe_one (pe_cmpR (op_eqD hr.units) (pe_ix ix_tup (pe_cB C__law_bent (hr.mono (by decide)) pass01 (pa_name (pv 3) (pa_tuple (pe_tup (pa_tuple (pe_tup (pa_const pe_int (pa_const pe_int pa_nil))) (pa_tuple (pe_tup (pa_const pe_int (pa_const pe_int pa_nil))) pa_nil))) pa_nil))) pe_int (fun _ _ => rfl)) (pv 2) (nomark _)))))))), ?_⟩
  refine ⟨_, rfl, (by show 2 ≤ sizeLine; decide), fun p1 hp1 => ?_⟩
  have u1 := same_new hp1 (.tup [.str "gap", pv'])
  have d1 : DV K (upd H p1 (.tup [.str "gap", pv'])) (.ref p1) (pcD (.gap s')) := .tup (SqT.of upd_same) (.cons (.str _) (.cons (hpv.keep u1) .nil))
  generalize upd H p1 (.tup [.str "gap", pv']) = H1 at u1 d1 ⊢
  refine ⟨(by show 1 ≤ sizeLine; decide), fun p2 hp2 => ?_⟩
  have u2 := same_new hp2 (.lst [.ref p1])
  have l2 : upd H1 p2 (.lst [.ref p1]) p2 = some (.lst [.ref p1]) := upd_same
  have d1 := d1.keep u2
  generalize upd H1 p2 (.lst [.ref p1]) = H2 at u2 l2 d1 ⊢
  have t2 := u1.trans u2
  have bl : bs.length = ps.length := by have := hbs.len; rw [List.length_map] at this; exact this
  refine ⟨_, rfl, p2, lb, _, _, rfl, rfl, l2, t2 _ _ hlb, Nat.le_of_lt (small1000 (by simp only [List.length_cons, List.length_nil]; omega)), fun p3 hp3 => ?_⟩
  have u3 := same_new hp3 (.lst ([.ref p1] ++ bs))
  have hB : DV K (upd H2 p3 (.lst ([.ref p1] ++ bs))) (.ref p3) (benchD (.gap s' :: ps)) := .lst (SqL.of upd_same) (.cons (d1.keep u3) (hbs.keep (t2.trans u3)))
  have t3 := t2.trans u3
  generalize upd H2 p3 (.lst ([.ref p1] ++ bs)) = H3 at hB t3 ⊢
  have gd' : Good 150 (.gap s' :: ps) := by
    have g := gd.mono (show 7 ≤ 150 by decide)
    refine ⟨by rw [List.length_cons]; omega, fun p hp => ?_, fun p hp => ?_⟩
    · rcases List.mem_cons.mp hp with rfl | m
      · exact trivial
      · exact g.ok p m
    · rcases List.mem_cons.mp hp with rfl | m
      · exact bs'
      · exact g.bd p m
  have bnd : 2 + (Pc.gap s' :: ps).length * (150 + 1) + 150 ≤ 3900 := by rw [List.length_cons]; omega
  refine ⟨_, rfl, (by show 2 ≤ sizeLine; decide), fun p4 hp4 => ⟨(by show 2 ≤ sizeLine; decide), fun p5 hp5 => ⟨(by show 2 ≤ sizeLine; decide), fun p6 hp6 => ?_⟩⟩⟩
  have u4 := same_new hp4 (.tup [.int 0, .int 1])
  have u5 := same_new hp5 (.tup [.int 1, .int 1])
  have u6 := same_new hp6 (.tup [.ref p4, .ref p5])
  have d6 : DV K (upd (upd (upd H3 p4 (.tup [.int 0, .int 1])) p5 (.tup [.int 1, .int 1])) p6 (.tup [.ref p4, .ref p5])) (.ref p6) (rayD e2) := DV.upd2 hp6 (fr01.keep u5) fr11
  have t6 := u4.trans (u5.trans u6)
  clear u4 u5 u6
  generalize upd (upd (upd H3 p4 (.tup [.int 0, .int 1])) p5 (.tup [.int 1, .int 1])) p6 (.tup [.ref p4, .ref p5]) = H6 at d6 t6 ⊢
  refine ⟨_, _, .cons (hB.keep t6) (.cons d6 .nil), ⟨_, e2, 2, 150, rfl, gd', rb_e2, bnd, rfl⟩, fun v7 H7 s7 hv7 => ?_⟩
  obtain ⟨ya, y1, y2, rfl, hya, hy1, hy2⟩ := DV.t2 (show DV K H7 v7 (.tuple [frD (bend (.gap s' :: ps) e2).1, frD (bend (.gap s' :: ps) e2).2]) from hv7)
  rw [bent_e2] at hy1
  refine ⟨ya, _, _, _, rfl, rfl, hya, atI0, (by show 2 ≤ sizeLine; decide), fun p8 hp8 => ?_⟩
  have u8 := same_new hp8 (.tup [.int 0, .int 1])
  have t8 := t6.trans (s7.trans u8)
  refine ne_frD (hy1.keep u8) fr01 ⟨_, rfl, ?_⟩
  generalize upd H7 p8 (.tup [.int 0, .int 1]) = H8 at t8 ⊢
  have tH := t3.trans t8
  by_cases hz : (tabOf ps).a * s' + (tabOf ps).b = 0
  · refine iteF' (by rw [decide_eq_true hz]; rfl) ?_
    cases go with
    | none =>
      have eb : bringB (tabOf ps) s' none = true := by unfold bringB; rw [decide_eq_true hz]; rfl
      rw [eb] at q
      obtain rfl := DV.non_of (show DV K H gv .none from hgv)
      exact ⟨_, rfl, rfl, _, rfl, iteT (q _ tH)⟩
    | some g =>
      have eb : bringB (tabOf ps) s' (some g) = decide ((tabOf ps).a = g) := by unfold bringB; rw [decide_eq_true hz]; rfl
      rw [eb] at q
      have hgv : DV K H gv (frD g) := hgv
      obtain ⟨ga, rfl, hga⟩ := hgv.fr
      refine ⟨_, rfl, rfl, _, rfl, iteF' (decide_eq_false (fun h => nomatch h)) ?_⟩
      refine ⟨_, rfl, (by show 2 ≤ sizeLine; decide), fun q4 hq4 => ⟨(by show 2 ≤ sizeLine; decide), fun q5 hq5 => ⟨(by show 2 ≤ sizeLine; decide), fun q6 hq6 => ?_⟩⟩⟩
      have u4 := same_new hq4 (.tup [.int 1, .int 1])
      have u5 := same_new hq5 (.tup [.int 0, .int 1])
      have u6 := same_new hq6 (.tup [.ref q4, .ref q5])
      have e6 : DV K (upd (upd (upd H8 q4 (.tup [.int 1, .int 1])) q5 (.tup [.int 0, .int 1])) q6 (.tup [.ref q4, .ref q5])) (.ref q6) (rayD e1) := DV.upd2 hq6 (fr11.keep u5) fr01
      have t9 := u4.trans (u5.trans u6)
      clear u4 u5 u6
      generalize upd (upd (upd H8 q4 (.tup [.int 1, .int 1])) q5 (.tup [.int 0, .int 1])) q6 (.tup [.ref q4, .ref q5]) = H9 at e6 t9 ⊢
      refine ⟨_, _, .cons (hB.keep (t8.trans t9)) (.cons e6 .nil), ⟨_, e1, 2, 150, rfl, gd', rb_e1, bnd, rfl⟩, fun va Ha sa hva => ?_⟩
      obtain ⟨za, z1, z2, rfl, hza, hz1, hz2⟩ := DV.t2 (show DV K Ha va (.tuple [frD (bend (.gap s' :: ps) e1).1, frD (bend (.gap s' :: ps) e1).2]) from hva)
      rw [bent_e1] at hz1
      have tA := tH.trans (t9.trans sa)
      exact ⟨za, _, _, _, rfl, rfl, hza, atI0, _, rfl, eq_frD hz1 (hgv.keep tA) (q _ tA)⟩
  · refine iteT' (by rw [decide_eq_false hz]; rfl) ?_
    have eb : bringB (tabOf ps) s' go = false := by unfold bringB; rw [decide_eq_false hz, Bool.false_and]
    rw [eb] at q
    exact q _ tH
theorem c__law_wish (T : Txt K mg ad) : CalB P w K mg base true 6 "_law_wish" ["_law_source_here", "_law_stock_here", "_law_gaps_here"] (spWsh65 K) := by
  have C__law_choices := c__law_choices (P := P) (w := w) (base := base) T
  have C__law_bench := c__law_bench (P := P) (w := w) (base := base) T
  have C__law_draw := c__law_draw (P := P) (w := w) (base := base) T
  have C__law_table := c__law_table (P := P) (w := w) (base := base) T
  have C__law_part := c__law_part (P := P) (w := w) (base := base) T
  have C__law_less := c__law_less (P := P) (w := w) (base := base) T
  have C__law_product := c__law_product (P := P) (w := w) (base := base) T
  have C__law_inverse := c__law_inverse (P := P) (w := w) (base := base) T
  refine T.t__law_wish.calN sc__law_wish (fun _ _ _ _ _ _ => by3 fun _ _ _ => rfl) (fun vs H Q E h => ?_) (fun f cdv A outer s H vs Q E hr h => ?_)
  · obtain ⟨_, _, _, _, _, _, _, _, rfl, _⟩ := h; rfl
  obtain ⟨d, ls, lg, ks, gv, st, g0, gs, rfl, hd, hls, hks, so, sb, hlg, hgv, h4, gb, nls, nlg, q⟩ := h
  refine ⟨_, (pss_cons (ps_set (i := 3) sc__law_wish.nd rfl (Or.inl rfl) (pe_cB C__law_choices (hr.mono (by decide)) pass01 (pa_name (pv 1) (pa_bin (pe_op op_sub (pe_callB call_len_seq rfl T.len bt_len (pa_name (pv 2) pa_nil)) pe_int) pa_nil)))) (pss_cons (ps_set (i := 4) sc__law_wish.nd rfl (Or.inl rfl) (pe_cB C__law_bench (hr.mono (by decide)) pass01 (pa_name (pv 1) (pa_name (pv 2) (pa_sub (pe_ix ix_list (pv 3) (pe_cB C__law_draw (hr.mono (by decide)) pass01 (pa_name (pv 0) (pa_call (pe_callB call_len_seq rfl T.len bt_len (pa_name (pv 3) pa_nil)) pa_nil))) (fun _ _ => rfl)) pa_nil))))) (pss_cons (ps_asg (pe_cB C__law_table (hr.mono (by decide)) pass01 (pa_name (pv 4) pa_nil)) (pg_tup (n := 4) rfl (pgs_cons (pg_name (i := 5) sc__law_wish.nd rfl (by first | exact Or.inl rfl | exact Or.inr rfl)) (pgs_cons (pg_name (i := 6) sc__law_wish.nd rfl (by first | exact Or.inl rfl | exact Or.inr rfl)) (pgs_cons (pg_name (i := 7) sc__law_wish.nd rfl (by first | exact Or.inl rfl | exact Or.inr rfl)) (pgs_cons (pg_name (i := 8) sc__law_wish.nd rfl (by first | exact Or.inl rfl | exact Or.inr rfl)) pgs_nil)))))) (pss_cons (ps_set (i := 9) sc__law_wish.nd rfl (by first | exact Or.inl rfl | exact Or.inr rfl) (pe_cB C__law_part (hr.mono (by decide)) pass01 (pa_name (pv 0) pa_nil))) (pss_cons (ps_if (PW.pt (pw_and (pt_cmpR op_ne (pe_ix ix_tup (pv 5) pe_int (fun _ _ => rfl)) pe_int (nomark _)) (pw_and1 (pt_cmpR op_gt (pe_cB C__law_draw (hr.mono (by decide)) pass01 (pa_name (pv 0) (pa_const pe_int pa_nil))) pe_int (nomark _))))) (pss_one (ps_set (i := 9) sc__law_wish.nd rfl (by first | exact Or.inl rfl | exact Or.inr rfl) (pe_cB C__law_less (hr.mono (by decide)) pass01 (pa_call (pe_cB C__law_product (hr.mono (by decide)) pass01 (pa_name (pv 6) (pa_call (pe_cB C__law_inverse (hr.mono (by decide)) pass01 (pa_name (pv 5) pa_nil)) pa_nil))) pa_nil)))) pss_nil) (pss_cons (ps_set (i := 10) sc__law_wish.nd rfl (by first | exact Or.inl rfl | exact Or.inr rfl) (pe_ix ix_list (pe_lst (pa_name (pv 5) (pa_name (pv 5) (pa_call (pe_cB C__law_part (hr.mono (by decide)) pass01 (pa_name (pv 0) pa_nil)) pa_nil)))) (pe_cB C__law_draw (hr.mono (by decide)) pass01 (pa_name (pv 0) (pa_const pe_int pa_nil))) (fun _ _ => rfl))) (pss_one (ps_ret (pe_tup (pa_name (pv 9) (pa_sub (pe_ix ix_list (pe_lst (pa_const pe_non (pa_name (pv 10) pa_nil))) (pe_cB C__law_draw (hr.mono (by decide)) pass01 (pa_name (pv 0) (pa_const pe_int pa_nil))) (fun _ _ => rfl)) pa_nil))))))))))), ?_⟩
  have gl : gv.length = gs.length + 1 := by have := hgv.len; rw [List.length_map] at this; exact this
  have c5 := pow_5 so.len.2 h4
  have c1 : 1 ≤ (st.length + 1) ^ gs.length := Nat.pow_pos (by omega)
  have c6 := lchs_len st gs.length
  refine ⟨_, rfl, _, rfl, lg, _, rfl, .inl (SqL.of hlg), _, _, rfl, rfl, ls, ks, st, gs.length, ?_, hls, hks, so.len.2, h4, fun pc xs H1 s1 nc hpc lcs => ?_⟩
  · rw [gl]
    show [V.ref ls, V.int (((gs.length + 1 : Nat) : Int) - 1)] = _
    rw [show (((gs.length + 1 : Nat) : Int) - 1) = (gs.length : Int) by omega]
  have xl := lcs.len
  have hd1 := hd.keep s1
  have npc : pc ≠ d := hd.nd nc
  refine ⟨_, rfl, _, rfl, _, rfl, _, rfl, _, rfl, pc, _, rfl, .inl (SqL.of hpc), d, _, rfl, hd1, ⟨by omega, by omega⟩, fun x H2 x0 x1 hd2 sd2 => ?_⟩
  obtain ⟨v, hv, hm⟩ := atI_in (xs := xs) (r := x) x0 (by omega)
  obtain ⟨i, hi⟩ := List.getElem?_of_mem hm
  obtain ⟨lx, cx, rfl, ec, nx', hlx⟩ := lcs.get hi
  have nlx : lx ≠ d := hd.nd nx'
  have cin := (lchs_mem st gs.length cx).mp (List.mem_of_getElem? ec)
  have k2 : ∀ b o, b ≠ d → H b = some o → H2 b = some o := fun b o n e => sd2 _ _ n (s1 _ _ e)
  have hks2 : DVs K H2 ks (st.map kindD) := dvs_keepT (hd1.t sd2) (noLs_map (fun _ => rfl) st) (hks.keep s1)
  have hgv2 : DVs K H2 gv ((g0 :: gs).map frD) := dvs_keepT (hd1.t sd2) (noLs_map (fun _ => rfl) _) (hgv.keep s1)
  refine ⟨pc, _, _, _, rfl, rfl, SqL.of (sd2 _ _ npc hpc), hv, ls, lg, lx, ks, gv, st, g0, gs, cx, rfl, k2 _ _ nls hls, hks2, so, k2 _ _ nlg hlg, hgv2, h4, SqL.of (sd2 _ _ nlx hlx), cin, fun pb bs H3 s3 nb hpb hbs => ?_⟩
  have l9 := due_len9 so g0 h4 cin
  have tb := due_tb9 so sb gb h4 cin
  refine ⟨_, rfl, _, _, .cons (.lst (SqL.of hpb) hbs : DV K H3 (.ref pb) (benchD (dueB st g0 gs cx))) .nil, ⟨_, 7, rfl, ⟨by omega, due_ok7 st g0 gs cx, due_bd7 sb gb cx⟩, by omega, rfl⟩, fun tv H4 s4 htv => ?_⟩
  have htv : DV K H4 tv (tabD (tabOf (dueB st g0 gs cx))) := htv
  generalize tabOf (dueB st g0 gs cx) = t at tb htv
  obtain ⟨ta, va, vb, vc, vd, rfl, hta, ha, hb, hc, hdd⟩ := DV.t4 (show DV K H4 tv (.tuple [frD t.a, frD t.b, frD t.c, frD t.d]) from htv)
  refine ⟨ta, _, rfl, hta, rfl, va, _, rfl, vb, _, rfl, vc, _, rfl, vd, _, rfl, rfl, ?_⟩
  have hd4 := hd2.keep (s3.trans s4)
  have k4 : SD d H H4 := fun b o n e => s4 _ _ (s3 _ _ (k2 b o n e))
  refine ⟨_, rfl, d, rfl, hd4, fun pv0 H5 q0 hd5 sd5 hpv0 bq => ?_⟩
  have k5 := k4.trans sd5
  have va5 := hd4.dv sd5 ha
  have vb5 := hd4.dv sd5 hb
  obtain ⟨aa, rfl, haa⟩ := va5.fr
  refine ⟨_, rfl, aa, _, _, _, rfl, rfl, haa, atI0, rfl, _, rfl, ?_⟩
  by_cases an : t.a = 0
  · refine iteF' (by rw [decI, decide_eq_true (by rw [an]; rfl)]; rfl) (iteF ?_)
    generalize hva : V.ref aa = va at va5
    have hdX := hd5
    have vaX := va5
    have pvX := hpv0
    have kX := k5
    refine ⟨_, rfl, _, rfl, _, rfl, d, rfl, hdX, fun gp H7 q1 hd7 sd7 hgp bq1 => ?_⟩
    have va7 := hdX.dv sd7 vaX
    have pv7 := hdX.dv sd7 pvX
    have k7 := kX.trans sd7
    refine ⟨(by show 3 ≤ sizeLine; decide), fun pl hpl => ?_⟩
    have u8 := same_new hpl (.lst [va, va, gp])
    have l8 : upd H7 pl (.lst [va, va, gp]) pl = some (.lst [va, va, gp]) := upd_same
    have npl := hd7.nd hpl
    have hd8 := hd7.keep u8
    have va8 := va7.keep u8
    have pv8 := pv7.keep u8
    have gp8 := hgp.keep u8
    have k8 : SD d H (upd H7 pl (.lst [va, va, gp])) := fun b o n e => u8 _ _ (k7 b o n e)
    generalize upd H7 pl (.lst [va, va, gp]) = H8 at l8 hd8 va8 pv8 gp8 k8 ⊢
    refine ⟨_, rfl, d, 3, rfl, hd8, ⟨by decide, by decide⟩, fun x9 H9 x90 x91 hd9 sd9 => ?_⟩
    obtain ⟨v9, hv9, hm9⟩ := atI_in (xs := [va, va, gp]) (r := x9) x90 (by simp only [List.length_cons, List.length_nil]; omega)
    obtain ⟨gq, hgq⟩ : ∃ gq : Rat, DV K H8 v9 (frD gq) := by
      simp only [List.mem_cons, List.not_mem_nil, or_false] at hm9
      rcases hm9 with rfl | rfl | rfl
      · exact ⟨_, va8⟩
      · exact ⟨_, va8⟩
      · exact ⟨_, gp8⟩
    have g9 := hd8.dv sd9 hgq
    have pv9 := hd8.dv sd9 pv8
    have k9 := k8.trans sd9
    refine ⟨pl, _, _, v9, rfl, rfl, SqL.of (sd9 _ _ npl l8), hv9, ?_⟩
    refine ⟨_, rfl, _, rfl, (by show 2 ≤ sizeLine; decide), fun pm hpm => ?_⟩
    have u10 := same_new hpm (.lst [.non, v9])
    have l10 : upd H9 pm (.lst [.non, v9]) pm = some (.lst [.non, v9]) := upd_same
    have npm := hd9.nd hpm
    have hd10 := hd9.keep u10
    have g10 := g9.keep u10
    have pv10 := pv9.keep u10
    have k10 : SD d H (upd H9 pm (.lst [.non, v9])) := fun b o n e => u10 _ _ (k9 b o n e)
    generalize upd H9 pm (.lst [.non, v9]) = H10 at l10 hd10 g10 pv10 k10 ⊢
    refine ⟨_, rfl, d, 2, rfl, hd10, ⟨by decide, by decide⟩, fun xb Hb xb0 xb1 hdb sdb => ?_⟩
    obtain ⟨w', hw', hmw⟩ := atI_in (xs := [V.non, v9]) (r := xb) xb0 (by simp only [List.length_cons, List.length_nil]; omega)
    obtain ⟨go, hgo⟩ : ∃ go : Option Rat, DV K Hb w' (ofrD go) := by
      simp only [List.mem_cons, List.not_mem_nil, or_false] at hmw
      rcases hmw with rfl | rfl
      · exact ⟨none, .non⟩
      · exact ⟨some gq, hd10.dv sdb g10⟩
    have pvb := hd10.dv sdb pv10
    refine ⟨pm, _, _, w', rfl, rfl, SqL.of (sdb _ _ npm l10), hw', (by show 2 ≤ sizeLine; decide), fun pt hpt => ?_⟩
    have ut := same_new hpt (.tup [pv0, w'])
    exact q pt pv0 w' _ _ go (hdb.keep ut) (fun b o n e => ut _ _ ((k10.trans sdb) b o n e)) (SqT.of upd_same) (pvb.keep ut) (hgo.keep ut) (bq.mono (by decide))
  · refine iteT' (by rw [decI, decide_eq_false (fun e => an (Rat.num_eq_zero.mp e))]; rfl) ?_
    refine ⟨_, rfl, d, 4, rfl, hd5, ⟨by decide, by decide⟩, fun y H6 y0 y1 hd6 sd6 => ⟨_, _, rfl, rfl, _, rfl, ite2 (fun _ => ?_) (fun _ => ?_)⟩⟩
    · have va6 := hd5.dv sd6 va5
      have vb6 := hd5.dv sd6 vb5
      have k6 := k5.trans sd6
      have bi : Bd 75 (1 / t.a) := bd_inv tb.a an
      refine ⟨_, rfl, _, rfl, _, _, .cons va6 .nil, ⟨_, rfl, tb.a.sm (by decide), an, rfl⟩, fun iv G1 r1 hiv => ?_⟩
      refine ⟨_, _, .cons (vb6.keep r1) (.cons hiv .nil), ⟨_, _, rfl, tb.b.sm (by decide), bi.sm (by decide), rfl⟩, fun mv G2 r2 hmv => ?_⟩
      have bm : Bd 150 (t.b * (1 / t.a)) := (tb.b.mul bi).mono (by decide)
      refine ⟨_, _, .cons hmv .nil, ⟨_, rfl, rfl⟩, fun lv G3 r3 hlv => ?_⟩
      have rr := r1.trans (r2.trans r3)
      generalize hva : V.ref aa = va at va6
      have hdX := hd6.keep rr
      have vaX := va6.keep rr
      have pvX := hlv
      have kX : SD d H G3 := fun b o n e => rr _ _ (k6 b o n e)
      refine ⟨_, rfl, _, rfl, _, rfl, d, rfl, hdX, fun gp H7 q1 hd7 sd7 hgp bq1 => ?_⟩
      have va7 := hdX.dv sd7 vaX
      have pv7 := hdX.dv sd7 pvX
      have k7 := kX.trans sd7
      refine ⟨(by show 3 ≤ sizeLine; decide), fun pl hpl => ?_⟩
      have u8 := same_new hpl (.lst [va, va, gp])
      have l8 : upd H7 pl (.lst [va, va, gp]) pl = some (.lst [va, va, gp]) := upd_same
      have npl := hd7.nd hpl
      have hd8 := hd7.keep u8
      have va8 := va7.keep u8
      have pv8 := pv7.keep u8
      have gp8 := hgp.keep u8
      have k8 : SD d H (upd H7 pl (.lst [va, va, gp])) := fun b o n e => u8 _ _ (k7 b o n e)
      generalize upd H7 pl (.lst [va, va, gp]) = H8 at l8 hd8 va8 pv8 gp8 k8 ⊢
      refine ⟨_, rfl, d, 3, rfl, hd8, ⟨by decide, by decide⟩, fun x9 H9 x90 x91 hd9 sd9 => ?_⟩
      obtain ⟨v9, hv9, hm9⟩ := atI_in (xs := [va, va, gp]) (r := x9) x90 (by simp only [List.length_cons, List.length_nil]; omega)
      obtain ⟨gq, hgq⟩ : ∃ gq : Rat, DV K H8 v9 (frD gq) := by
        simp only [List.mem_cons, List.not_mem_nil, or_false] at hm9
        rcases hm9 with rfl | rfl | rfl
        · exact ⟨_, va8⟩
        · exact ⟨_, va8⟩
        · exact ⟨_, gp8⟩
      have g9 := hd8.dv sd9 hgq
      have pv9 := hd8.dv sd9 pv8
      have k9 := k8.trans sd9
      refine ⟨pl, _, _, v9, rfl, rfl, SqL.of (sd9 _ _ npl l8), hv9, ?_⟩
      refine ⟨_, rfl, _, rfl, (by show 2 ≤ sizeLine; decide), fun pm hpm => ?_⟩
      have u10 := same_new hpm (.lst [.non, v9])
      have l10 : upd H9 pm (.lst [.non, v9]) pm = some (.lst [.non, v9]) := upd_same
      have npm := hd9.nd hpm
      have hd10 := hd9.keep u10
      have g10 := g9.keep u10
      have pv10 := pv9.keep u10
      have k10 : SD d H (upd H9 pm (.lst [.non, v9])) := fun b o n e => u10 _ _ (k9 b o n e)
      generalize upd H9 pm (.lst [.non, v9]) = H10 at l10 hd10 g10 pv10 k10 ⊢
      refine ⟨_, rfl, d, 2, rfl, hd10, ⟨by decide, by decide⟩, fun xb Hb xb0 xb1 hdb sdb => ?_⟩
      obtain ⟨w', hw', hmw⟩ := atI_in (xs := [V.non, v9]) (r := xb) xb0 (by simp only [List.length_cons, List.length_nil]; omega)
      obtain ⟨go, hgo⟩ : ∃ go : Option Rat, DV K Hb w' (ofrD go) := by
        simp only [List.mem_cons, List.not_mem_nil, or_false] at hmw
        rcases hmw with rfl | rfl
        · exact ⟨none, .non⟩
        · exact ⟨some gq, hd10.dv sdb g10⟩
      have pvb := hd10.dv sdb pv10
      refine ⟨pm, _, _, w', rfl, rfl, SqL.of (sdb _ _ npm l10), hw', (by show 2 ≤ sizeLine; decide), fun pt hpt => ?_⟩
      have ut := same_new hpt (.tup [lv, w'])
      exact q pt lv w' _ _ go (hdb.keep ut) (fun b o n e => ut _ _ ((k10.trans sdb) b o n e)) (SqT.of upd_same) (pvb.keep ut) (hgo.keep ut) bm.neg
    · have va6 := hd5.dv sd6 va5
      generalize hva : V.ref aa = va at va6
      have hdX := hd6
      have vaX := va6
      have pvX := hd5.dv sd6 hpv0
      have kX := k5.trans sd6
      refine ⟨_, rfl, _, rfl, _, rfl, d, rfl, hdX, fun gp H7 q1 hd7 sd7 hgp bq1 => ?_⟩
      have va7 := hdX.dv sd7 vaX
      have pv7 := hdX.dv sd7 pvX
      have k7 := kX.trans sd7
      refine ⟨(by show 3 ≤ sizeLine; decide), fun pl hpl => ?_⟩
      have u8 := same_new hpl (.lst [va, va, gp])
      have l8 : upd H7 pl (.lst [va, va, gp]) pl = some (.lst [va, va, gp]) := upd_same
      have npl := hd7.nd hpl
      have hd8 := hd7.keep u8
      have va8 := va7.keep u8
      have pv8 := pv7.keep u8
      have gp8 := hgp.keep u8
      have k8 : SD d H (upd H7 pl (.lst [va, va, gp])) := fun b o n e => u8 _ _ (k7 b o n e)
      generalize upd H7 pl (.lst [va, va, gp]) = H8 at l8 hd8 va8 pv8 gp8 k8 ⊢
      refine ⟨_, rfl, d, 3, rfl, hd8, ⟨by decide, by decide⟩, fun x9 H9 x90 x91 hd9 sd9 => ?_⟩
      obtain ⟨v9, hv9, hm9⟩ := atI_in (xs := [va, va, gp]) (r := x9) x90 (by simp only [List.length_cons, List.length_nil]; omega)
      obtain ⟨gq, hgq⟩ : ∃ gq : Rat, DV K H8 v9 (frD gq) := by
        simp only [List.mem_cons, List.not_mem_nil, or_false] at hm9
        rcases hm9 with rfl | rfl | rfl
        · exact ⟨_, va8⟩
        · exact ⟨_, va8⟩
        · exact ⟨_, gp8⟩
      have g9 := hd8.dv sd9 hgq
      have pv9 := hd8.dv sd9 pv8
      have k9 := k8.trans sd9
      refine ⟨pl, _, _, v9, rfl, rfl, SqL.of (sd9 _ _ npl l8), hv9, ?_⟩
      refine ⟨_, rfl, _, rfl, (by show 2 ≤ sizeLine; decide), fun pm hpm => ?_⟩
      have u10 := same_new hpm (.lst [.non, v9])
      have l10 : upd H9 pm (.lst [.non, v9]) pm = some (.lst [.non, v9]) := upd_same
      have npm := hd9.nd hpm
      have hd10 := hd9.keep u10
      have g10 := g9.keep u10
      have pv10 := pv9.keep u10
      have k10 : SD d H (upd H9 pm (.lst [.non, v9])) := fun b o n e => u10 _ _ (k9 b o n e)
      generalize upd H9 pm (.lst [.non, v9]) = H10 at l10 hd10 g10 pv10 k10 ⊢
      refine ⟨_, rfl, d, 2, rfl, hd10, ⟨by decide, by decide⟩, fun xb Hb xb0 xb1 hdb sdb => ?_⟩
      obtain ⟨w', hw', hmw⟩ := atI_in (xs := [V.non, v9]) (r := xb) xb0 (by simp only [List.length_cons, List.length_nil]; omega)
      obtain ⟨go, hgo⟩ : ∃ go : Option Rat, DV K Hb w' (ofrD go) := by
        simp only [List.mem_cons, List.not_mem_nil, or_false] at hmw
        rcases hmw with rfl | rfl
        · exact ⟨none, .non⟩
        · exact ⟨some gq, hd10.dv sdb g10⟩
      have pvb := hd10.dv sdb pv10
      refine ⟨pm, _, _, w', rfl, rfl, SqL.of (sdb _ _ npm l10), hw', (by show 2 ≤ sizeLine; decide), fun pt hpt => ?_⟩
      have ut := same_new hpt (.tup [pv0, w'])
      exact q pt pv0 w' _ _ go (hdb.keep ut) (fun b o n e => ut _ _ ((k10.trans sdb) b o n e)) (SqT.of upd_same) (pvb.keep ut) (hgo.keep ut) (bq.mono (by decide))
end
end K65
namespace K65
open PySem L2 Lib Fr Op
seal PE PT PW PA PS PSs PG PGs PI PO PIfs
section
variable {P : Program} {w : World} {K : PySem.W.Frag} {mg : Str → Option Value} {base : Heap} {ad : Adr} {c : Bool}
theorem c__law_step (T : Txt K mg ad) : CalB P w K mg base true 10 "_law_step" ["_law_source_here", "_law_sizes"] (spStp K) := by
  have C__law_choices := c__law_choices (P := P) (w := w) (base := base) T
  have C__law_bench := c__law_bench (P := P) (w := w) (base := base) T
  have C__law_stock := c__law_stock (P := P) (w := w) (base := base) T
  have C__law_gaps := c__law_gaps (P := P) (w := w) (base := base) T
  have C__law_brings := c__law_brings (P := P) (w := w) (base := base) T
  have C__law_wish := c__law_wish (P := P) (w := w) (base := base) T
  have C__law_many := c__law_many (P := P) (w := w) (base := base) T
  have M_Shop := k_Shop (P := P) (w := w) (base := base) T
  refine T.t__law_step.calN sc__law_step (fun _ _ _ _ _ _ => by2 fun _ _ => rfl) (fun vs H Q E h => ?_) (fun f cdv A outer s H vs Q E hr h => ?_)
  · obtain ⟨_, _, _, _, rfl, _⟩ := h; rfl
  obtain ⟨d, lz, a, b, rfl, hd, hlz, a1, a4, b1, b4, nz, q⟩ := h
  refine ⟨_, (pss_cons (ps_set (i := 2) sc__law_step.nd rfl (by first | exact Or.inl rfl | exact Or.inr rfl) (pe_cB C__law_stock (hr.mono (by decide)) pass01 (pa_name (pv 0) (pa_sub (pe_ix ix_list (pv 1) pe_int (fun _ _ => rfl)) pa_nil)))) (pss_cons (ps_set (i := 3) sc__law_step.nd rfl (by first | exact Or.inl rfl | exact Or.inr rfl) (pe_cB C__law_gaps (hr.mono (by decide)) pass01 (pa_name (pv 0) (pa_sub (pe_ix ix_list (pv 1) pe_int (fun _ _ => rfl)) pa_nil)))) (pss_cons (ps_asg (pe_cB C__law_wish (hr.mono (by decide)) pass01 (pa_name (pv 0) (pa_name (pv 2) (pa_name (pv 3) pa_nil)))) (pg_tup (n := 2) rfl (pgs_cons (pg_name (i := 4) sc__law_step.nd rfl (by first | exact Or.inl rfl | exact Or.inr rfl)) (pgs_cons (pg_name (i := 5) sc__law_step.nd rfl (by first | exact Or.inl rfl | exact Or.inr rfl)) pgs_nil)))) (pss_cons (ps_set (i := 6) sc__law_step.nd rfl (Or.inl rfl) (pe_cB C__law_choices (hr.mono (by decide)) pass01 (pa_name (pv 2) (pa_bin (pe_op op_sub (pe_callB call_len_seq rfl T.len bt_len (pa_name (pv 3) pa_nil)) pe_int) pa_nil)))) (pss_cons (ps_compX (i := 7) sc__law_step.nd rfl (by first | exact Or.inl rfl | exact Or.inr rfl) ["_law_one", "_law_place", "_law_growth", "_law_stock_here", "_law_gaps_here"] [none, some 4, some 5, some 2, some 3] rfl (pi_list (pv 6)) (fun _ _ _ _ _ _ => (pg_name (i := 0) (show List.Nodup [("_law_one" : Str), ("_law_place" : Str), ("_law_growth" : Str), ("_law_stock_here" : Str), ("_law_gaps_here" : Str)] by decide) rfl (by first | exact Or.inl rfl | exact Or.inr rfl))) (fun _ _ _ _ _ _ => (pifs_one (pt_val (pe_cB C__law_brings (hr.mono (by decide)) pass01 (pa_call (pe_cB C__law_bench (hr.mono (by decide)) pass01 (pa_name (pv 3) (pa_name (pv 4) (pa_name (pv 0) pa_nil)))) (pa_name (pv 1) (pa_name (pv 2) pa_nil))))))) (fun _ _ _ _ _ _ => (pv 0)) (cap_def (hcell := by decide) (hf := (show ∀ y : Str × NameKind, y ∈ _ → y.2 = NameKind.free → (defScope s__law_step).names.lookup y.1 = some NameKind.cell by decide))) (by decide) rfl (by decide) rfl (fun i j h => by
      rcases i with _ | _ | _ | _ | _ | i
      · simp at h
      · simp at h; subst h; exact ⟨_, rfl, rfl, rfl, rfl⟩
      · simp at h; subst h; exact ⟨_, rfl, rfl, rfl, rfl⟩
      · simp at h; subst h; exact ⟨_, rfl, rfl, rfl, rfl⟩
      · simp at h; subst h; exact ⟨_, rfl, rfl, rfl, rfl⟩
      · simp at h)) (pss_cons (ps_set (i := 8) sc__law_step.nd rfl (Or.inl rfl) (pe_tup (pa_const pe_str (pa_name (pv 4) (pa_name (pv 5) pa_nil))))) (pss_cons (ps_if (pt_cmpR op_isN (pv 5) pe_non (nomark _)) (pss_one (ps_set (i := 8) sc__law_step.nd rfl (Or.inl rfl) (pe_tup (pa_const pe_str (pa_name (pv 4) pa_nil))))) pss_nil) (pss_cons (ps_set (i := 9) sc__law_step.nd rfl (Or.inl rfl) (pe_mB (k := 8) (pe_mkB M_Shop (hr.mono (by decide)) (pa_name (pv 2) pa_nil)) (hr.mono (by decide)) (pa_name (pv 3) (pa_name (pv 8) pa_nil)))) (pss_cons (ps_if (pt_cmpR (op_eqD hr.units) (pv 7) (pe_lst pa_nil) (nomark _)) (pss_one (ps_ret (pe_cmpR op_isN (pv 9) pe_non (nomark _)))) pss_nil) (pss_one (ps_ret (pe_and (pe_callB call_isiD rfl T.isinstance bt_isinstance (pa_name (pv 9) (pa_name (pe_bltn (v := .ty "list") rfl T.list bt_list rfl) pa_nil))) (pe_and (pe_cmpR (op_inD hr.units) (pv 9) (pv 7) (by rfl)) (pe_one (pe_cmpR op_eq (pe_cB C__law_many (hr.mono (by decide)) pass01 (pa_name (pv 9) pa_nil)) (pe_callB (call_minL rfl) rfl T.min bt_min (pa_cons (pe_comp ["_law_one"] [none] rfl (pi_list (pv 7)) (fun _ _ _ _ _ => (pg_name (i := 0) (show List.Nodup [("_law_one" : Str)] by decide) rfl (by first | exact Or.inl rfl | exact Or.inr rfl))) (fun _ _ _ _ _ => pifs_nil) (fun _ _ _ _ _ => (pe_cB C__law_many (hr.mono (by decide)) pass01 (pa_name (pv 0) pa_nil))) (cap_nil (by decide) (by decide)) (by decide) rfl (by decide) rfl (nocap rfl)) pa_nil)) (nomark _)))))))))))))))), ?_⟩
  refine ⟨_, rfl, _, rfl, lz, _, _, _, rfl, rfl, SqL.of hlz, atI0, d, a, rfl, hd, a1, a4, fun ls ks sl st H1 hd1 sd1 nls hls hks ns n1 n4 => ?_⟩
  have so := ns.ok n1 n4
  have nlsd : ls ≠ d := hd.nd nls
  refine ⟨_, rfl, _, rfl, lz, _, _, _, rfl, rfl, SqL.of (sd1 _ _ nz hlz), rfl, d, b, rfl, hd1, b1, b4, fun lg gv g0 gs H2 hd2 sd2 nlg hlg hgv h4 gb => ?_⟩
  have nlgd : lg ≠ d := hd1.nd nlg
  have hls2 := sd2 _ _ nlsd hls
  have hks2 : DVs K H2 ks (st.map kindD) := dvs_keepT (hd1.t sd2) (noLs_map (fun _ => rfl) st) hks
  refine ⟨_, rfl, _, rfl, _, rfl, d, ls, lg, ks, gv, st, g0, gs, rfl, hd2, hls2, hks2, so, ns.bd, hlg, hgv, h4, gb, nlsd, nlgd, fun pt pv' wv H3 s' go hd3 sd3 hpt hpv hwv bs' => ?_⟩
  refine ⟨pt, _, rfl, hpt, rfl, _, _, rfl, _, _, rfl, rfl, ?_⟩
  have K3 : SD d H H3 := sd1.trans (sd2.trans sd3)
  have hls3 := sd3 _ _ nlsd hls2
  have hlg3 := sd3 _ _ nlgd hlg
  have hks3 : DVs K H3 ks (st.map kindD) := dvs_keepT (hd2.t sd3) (noLs_map (fun _ => rfl) st) hks2
  have hgv3 : DVs K H3 gv ((g0 :: gs).map frD) := dvs_keepT (hd2.t sd3) (noLs_map (fun _ => rfl) _) hgv
  clear sd1 sd2 sd3 hls hks hls2 hks2 hlg hgv hd1 hd2 hd3
  have gl : gv.length = gs.length + 1 := by have := hgv3.len; rw [List.length_map] at this; exact this
  have c5 := pow_5 n4 h4
  have c6 := lchs_len st gs.length
  refine ⟨_, rfl, _, rfl, lg, _, rfl, .inl (SqL.of hlg3), _, _, rfl, rfl, ls, ks, st, gs.length, ?_, hls3, hks3, n4, h4, fun pc xs H4 s4 nc hpc lcs => ?_⟩
  · rw [gl]
    show [V.ref ls, V.int (((gs.length + 1 : Nat) : Int) - 1)] = _
    rw [show (((gs.length + 1 : Nat) : Int) - 1) = (gs.length : Int) by omega]
  have xl := lcs.len
  have sok := ns.str n4
  refine ⟨_, rfl, pc, rfl, ⟨_, SqL.of hpc⟩, ?_⟩
  refine comp_list (K := K) (a := pc) (xs := xs) (fun i σ ys H' => ∃ c0, σ = [c0, some pv', some wv, some (.ref ls), some (.ref lg)] ∧ Same H4 H' ∧ LcAt (fun l => H3 l = none) H4 ys (((lchs st gs.length).take i).filter fun c => bringB (tabOf (dueB st g0 gs c)) s' go)) ⟨_, rfl, Same.refl _, .nil⟩ ?_ ?_ ?_
  · rintro i σ ys H' hi ⟨c0, rfl, s5, hys⟩
    refine ⟨?_, SqL.of (s5 _ _ hpc)⟩
    have h1 := hys.len
    have h2 := List.length_filter_le (fun c : List Str => bringB (tabOf (dueB st g0 gs c)) s' go) ((lchs st gs.length).take i)
    rw [List.length_take] at h2
    exact Nat.le_of_lt (small1000 (by omega))
  · rintro i v σ ys H' hi ⟨c0, rfl, s5, hys⟩
    obtain ⟨lx, cx, rfl, ec, nx', hlx⟩ := lcs.get hi
    have cin := (lchs_mem st gs.length cx).mp (List.mem_of_getElem? ec)
    have w5 := s4.trans s5
    have hlx5 := s5 _ _ hlx
    refine ⟨_, rfl, _, rfl, _, rfl, ls, lg, lx, ks, gv, st, g0, gs, cx, rfl, w5 _ _ hls3, hks3.keep w5, so, w5 _ _ hlg3, hgv3.keep w5, h4, SqL.of hlx5, cin, fun pb bs H6 s6 nb hpb hbs => ?_⟩
    have l9 := due_len9 so g0 h4 cin
    have w6 := w5.trans s6
    refine ⟨_, rfl, _, rfl, pb, pv', wv, bs, dueB st g0 gs cx, s', go, rfl, hpb, hbs, ⟨by omega, due_ok7 st g0 gs cx, due_bd7 ns.bd gb cx⟩, l9, hpv.keep w6, bs', hwv.keep w6, fun H7 s7 => ⟨_, rfl, ?_⟩⟩
    have w7 := s6.trans s7
    have ht : ((lchs st gs.length).take (i + 1)).filter (fun c => bringB (tabOf (dueB st g0 gs c)) s' go) = ((lchs st gs.length).take i).filter (fun c => bringB (tabOf (dueB st g0 gs c)) s' go) ++ if bringB (tabOf (dueB st g0 gs cx)) s' go = true then [cx] else [] := by
      rw [List.take_add_one, ec, List.filter_append]
      congr 1
      show [cx].filter _ = _
      rw [List.filter_cons]
      cases bringB (tabOf (dueB st g0 gs cx)) s' go <;> rfl
    cases hdd : bringB (tabOf (dueB st g0 gs cx)) s' go with
    | true =>
      rw [hdd, if_pos rfl] at ht
      exact iteT ⟨_, rfl, nx (lt_of_get hi) ⟨_, rfl, s5.trans w7, by rw [ht]; exact LcAt.snoc (N := fun l => H3 l = none) nx' hlx hys⟩⟩
    | false =>
      rw [hdd, if_neg (by decide), List.append_nil] at ht
      exact iteF (nx (lt_of_get hi) ⟨_, rfl, s5.trans w7, by rw [ht]; exact hys⟩)
  rintro σ ys H5 p6 ⟨c0, rfl, s5, hys⟩ hp6
  rw [xl, List.take_length] at hys
  have gdm : ∀ c, c ∈ ((lchs st gs.length).filter fun c => bringB (tabOf (dueB st g0 gs c)) s' go) ↔ inN st gs.length c ∧ bringB (tabOf (dueB st g0 gs c)) s' go = true := fun c => by
    rw [List.mem_filter, lchs_mem]
  have gdl : ((lchs st gs.length).filter fun c => bringB (tabOf (dueB st g0 gs c)) s' go).length ≤ 625 := by
    have := List.length_filter_le (fun c : List Str => bringB (tabOf (dueB st g0 gs c)) s' go) (lchs st gs.length)
    omega
  generalize ((lchs st gs.length).filter fun c => bringB (tabOf (dueB st g0 gs c)) s' go) = gd at gdm hys gdl
  have u6 := same_new hp6 (.lst ys)
  have m6 : upd H5 p6 (.lst ys) p6 = some (.lst ys) := upd_same
  have w6 := s5.trans u6
  have hys := hys.keep w6
  generalize upd H5 p6 (.lst ys) = H6 at m6 w6 hys ⊢
  have t6 := s4.trans w6
  -- the wish
  refine ⟨_, rfl, _, rfl, (by show 3 ≤ sizeLine; decide), fun p7 hp7 => ?_⟩
  have u7 := same_new hp7 (.tup [.str "grown", pv', wv])
  have e7 : SqT K (upd H6 p7 (.tup [.str "grown", pv', wv])) p7 [.str "grown", pv', wv] := SqT.of upd_same
  generalize upd H6 p7 (.tup [.str "grown", pv', wv]) = H7 at u7 e7 ⊢
  have t7 := t6.trans u7
  refine ⟨_, rfl, rfl, _, rfl, ?_⟩
  cases go with
  | none =>
    obtain rfl := DV.non_of (show DV K H3 wv .none from hwv)
    refine iteT ?_
    refine ⟨_, rfl, (by show 2 ≤ sizeLine; decide), fun p8 hp8 => ?_⟩
    have u8 := same_new hp8 (.tup [.str "image", pv'])
    have dW : DV K (upd H7 p8 (.tup [.str "image", pv'])) (.ref p8) (wishD (wishO s' none)) := .tup (SqT.of upd_same) (.cons (.str _) (.cons (hpv.keep (t7.trans u8)) .nil))
    have t8 := t7.trans u8
    have s68 := u7.trans u8
    generalize upd H7 p8 (.tup [.str "image", pv']) = H8 at dW t8 s68 ⊢
    generalize hc8 : V.ref p8 = c8 at dW
    have wbd : (wishO s' none).bd 250 := bs'.mono (by decide)
    refine ⟨_, rfl, fun x dx nx1 ndx ne => ?_⟩
    have w1 : Same H8 (upd (upd H8 dx (.own x)) x (.ins ad.Shop dx [])) := fun b o e => by rw [upd_ne (ne_of_none e nx1), upd_ne (ne_of_none e ndx)]; exact e
    refine ⟨x, dx, .ref ls, _, rfl, upd_same, .lst (SqL.of (w1 _ _ (t8 _ _ hls3))) ((hks3.keep t8).keep w1), stockB_good so, sok_good so.nm, fun ks2 l2 H9 s9 nl2 hl2 hks2 => ⟨rfl, ?_⟩⟩
    have ne2 : l2 ≠ x := fun e => by rw [e, upd_same] at nl2; cases nl2
    have sx : Same H8 (upd H9 x (.ins ad.Shop dx [("stock", .ref l2)])) := fun b o e => by
      rw [upd_ne (ne_of_none e nx1)]
      exact s9 _ _ (w1 _ _ e)
    have uT : SameT H9 (upd H9 x (.ins ad.Shop dx [("stock", .ref l2)])) := sameT_ins (s9 _ _ upd_same) _
    have hsh : ShopAt K ad.Shop (upd H9 x (.ins ad.Shop dx [("stock", .ref l2)])) (.ref x) st := ⟨x, dx, l2, ks2, rfl, upd_same, (upd_ne ne2).trans hl2, dvs_keepT uT (noLs_map (fun _ => rfl) _) hks2⟩
    have hxF : upd H9 x (.ins ad.Shop dx [("stock", .ref l2)]) x = some (.ins ad.Shop dx [("stock", .ref l2)]) := upd_same
    generalize upd H9 x (.ins ad.Shop dx [("stock", .ref l2)]) = HF at sx hsh hxF ⊢
    have tF := t8.trans sx
    have sF := s68.trans sx
    have q' : ∀ {H'}, Same HF H' → Q (.bl true) H' := fun s' => q _ fun b o n e => s' _ _ (tF _ _ (K3 b o n e))
    have dm : ∀ c, inN st gs.length c → doesB (tabOf (dueB st g0 gs c)) (wishO s' none) = bringB (tabOf (dueB st g0 gs c)) s' none := fun c _ => does_bring (det_tab _) _ _
    refine ⟨x, _, dx, _, _, _, rfl, hxF, rfl, mc_fewest T, _, rfl, _, rfl, .ref x, .ref lg, c8, st, g0, gs, wishO s' none, 250, rfl, hsh, n4, ns.bd, .lst (SqL.of (tF _ _ hlg3)) (hgv3.keep tF), h4, gb, dW.keep sx, wbd, by decide, by decide, fun l c HX SX nl hl cin hdo hmin => ?_, fun hno HX SX => ?_⟩
    · have cgd := (gdm c).mpr ⟨cin, by rw [← dm c cin]; exact hdo⟩
      have gne : gd ≠ [] := fun e => by rw [e] at cgd; cases cgd
      have SY := sF.trans SX
      refine ⟨_, rfl, (by show 0 ≤ sizeLine; decide), fun pe hpe => ?_⟩
      have uE := same_new hpe (.lst [])
      have dE : DV K (upd HX pe (.lst [])) (.ref pe) (.list []) := .lst (SqL.of upd_same) .nil
      have SZ := SY.trans uE
      have SW := SX.trans uE
      have hlE := uE _ _ hl
      generalize upd HX pe (.lst []) = HE at dE SZ SW hlE ⊢
      have sokg : ∀ c ∈ gd, ∀ z ∈ c, PyData.strOk z = true := fun c hc z hz => sok z (((gdm c).mp hc).1.2 z hz)
      have dG : DV K HE (.ref p6) (.list (gd.map chD)) := .lst (SqL.of (SZ _ _ m6)) (hys.keep SZ).dvs
      refine eq_nil dG dE (flat_lst (n := 1) fun d hd => by obtain ⟨c, hc, rfl⟩ := List.mem_map.mp hd; exact flat_ch (sokg c hc)) ⟨_, rfl, ?_⟩
      refine iteF' (by cases gd with | nil => exact absurd rfl gne | cons _ _ => rfl) ?_
      have fD : DV K HE (.ref l) (chD c) := .lst (SqL.of hlE) (dvs_strs c)
      refine ⟨_, rfl, _, _, _, _, rfl, fD, isLst_b _, _, rfl, iteT ?_⟩
      refine ⟨_, rfl, _, rfl, in_cs sokg (SqL.of (SZ _ _ m6)) (hys.keep SZ) fD cgd ⟨_, rfl, iteT ?_⟩⟩
      refine ⟨_, rfl, l, c, rfl, SqL.of hlE, by rw [cin.1]; omega, fun HG sG => ?_⟩
      have SG := SZ.trans sG
      refine ⟨_, rfl, p6, rfl, ⟨_, SqL.of (SG _ _ m6)⟩, ?_⟩
      have yl := hys.len
      refine comp_list0 (K := K) (a := p6) (xs := ys) (fun i σ zs H' => ∃ c0, σ = [c0] ∧ Same HG H' ∧ zs = ((gd.take i).map fun c => (gmany c : Int)).map V.int) ⟨_, rfl, Same.refl _, rfl⟩ ?_ ?_ ?_
      · rintro i σ zs H' hi ⟨c0, rfl, sH, rfl⟩
        refine ⟨?_, SqL.of ((SG.trans sH) _ _ m6)⟩
        rw [List.length_map, List.length_map, List.length_take]
        exact Nat.le_of_lt (small1000 (by omega))
      · rintro i v σ zs H' hi ⟨c0, rfl, sH, rfl⟩
        obtain ⟨lx, cx, rfl, ec, _, hlx⟩ := hys.get hi
        have cinx := ((gdm cx).mp (List.mem_of_getElem? ec)).1
        refine ⟨_, rfl, lx, cx, rfl, SqL.of ((SG.trans sH) _ _ hlx), by rw [cinx.1]; omega, fun H8' s8' => nx (lt_of_get hi) ⟨_, rfl, sH.trans s8', ?_⟩⟩
        rw [List.take_add_one, ec, List.map_append, List.map_append]
        rfl
      · rintro σ zs H' pz ⟨c0, rfl, sH, rfl⟩ hpz
        rw [yl, List.take_length]
        have uz := same_new hpz (.lst ((gd.map fun c => (gmany c : Int)).map V.int))
        refine ⟨pz, _, rfl, SqL.of upd_same, fun e => gne (List.map_eq_nil_iff.mp e), fun m hm hm2 => ⟨rfl, ?_⟩⟩
        obtain ⟨c', hc', rfl⟩ := List.mem_map.mp hm
        have a1 := hmin c' ((gdm c').mp hc').1 (by rw [dm c' ((gdm c').mp hc').1]; exact ((gdm c').mp hc').2)
        have a2 := hm2 _ (List.mem_map.mpr ⟨c, cgd, rfl⟩)
        rw [decI, decide_eq_true (by omega)]
        exact q' (SW.trans (sG.trans (sH.trans uz)))
    · have gn : gd = [] := by
        rcases gd with _ | ⟨c, gd⟩
        · rfl
        · obtain ⟨h1, h2⟩ := (gdm c).mp List.mem_cons_self
          have := hno c h1
          rw [dm c h1, h2] at this
          cases this
      have SY := sF.trans SX
      refine ⟨_, rfl, (by show 0 ≤ sizeLine; decide), fun pe hpe => ?_⟩
      have uE := same_new hpe (.lst [])
      have dE : DV K (upd HX pe (.lst [])) (.ref pe) (.list []) := .lst (SqL.of upd_same) .nil
      have SZ := SY.trans uE
      have SW := SX.trans uE
      generalize upd HX pe (.lst []) = HE at dE SZ SW ⊢
      have dG : DV K HE (.ref p6) (.list (gd.map chD)) := .lst (SqL.of (SZ _ _ m6)) (hys.keep SZ).dvs
      refine eq_nil dG dE (flat_lst (n := 1) fun d hd => by rw [gn] at hd; cases hd) ⟨_, rfl, ?_⟩
      refine iteT' (by rw [gn]; rfl) ?_
      exact ⟨_, rfl, rfl, q' SW⟩
  | some g =>
    have hwv' : DV K H3 wv (frD g) := hwv
    obtain ⟨ga, rfl, hga⟩ := hwv'.fr
    refine iteF' (decide_eq_false (fun h => nomatch h)) ?_
    have dW : DV K H7 (.ref p7) (wishD (wishO s' (some g))) := .tup e7 (.cons (.str _) (.cons (hpv.keep t7) (.cons (hwv'.keep t7) .nil)))
    have t8 := t7
    have s68 := u7
    generalize H7 = H8 at dW t8 s68 ⊢
    generalize hc8 : V.ref p7 = c8 at dW
    have wbd : (wishO s' (some g)).bd 250 := bs'.mono (by decide)
    refine ⟨_, rfl, fun x dx nx1 ndx ne => ?_⟩
    have w1 : Same H8 (upd (upd H8 dx (.own x)) x (.ins ad.Shop dx [])) := fun b o e => by rw [upd_ne (ne_of_none e nx1), upd_ne (ne_of_none e ndx)]; exact e
    refine ⟨x, dx, .ref ls, _, rfl, upd_same, .lst (SqL.of (w1 _ _ (t8 _ _ hls3))) ((hks3.keep t8).keep w1), stockB_good so, sok_good so.nm, fun ks2 l2 H9 s9 nl2 hl2 hks2 => ⟨rfl, ?_⟩⟩
    have ne2 : l2 ≠ x := fun e => by rw [e, upd_same] at nl2; cases nl2
    have sx : Same H8 (upd H9 x (.ins ad.Shop dx [("stock", .ref l2)])) := fun b o e => by
      rw [upd_ne (ne_of_none e nx1)]
      exact s9 _ _ (w1 _ _ e)
    have uT : SameT H9 (upd H9 x (.ins ad.Shop dx [("stock", .ref l2)])) := sameT_ins (s9 _ _ upd_same) _
    have hsh : ShopAt K ad.Shop (upd H9 x (.ins ad.Shop dx [("stock", .ref l2)])) (.ref x) st := ⟨x, dx, l2, ks2, rfl, upd_same, (upd_ne ne2).trans hl2, dvs_keepT uT (noLs_map (fun _ => rfl) _) hks2⟩
    have hxF : upd H9 x (.ins ad.Shop dx [("stock", .ref l2)]) x = some (.ins ad.Shop dx [("stock", .ref l2)]) := upd_same
    generalize upd H9 x (.ins ad.Shop dx [("stock", .ref l2)]) = HF at sx hsh hxF ⊢
    have tF := t8.trans sx
    have sF := s68.trans sx
    have q' : ∀ {H'}, Same HF H' → Q (.bl true) H' := fun s' => q _ fun b o n e => s' _ _ (tF _ _ (K3 b o n e))
    have dm : ∀ c, inN st gs.length c → doesB (tabOf (dueB st g0 gs c)) (wishO s' (some g)) = bringB (tabOf (dueB st g0 gs c)) s' (some g) := fun c _ => does_bring (det_tab _) _ _
    refine ⟨x, _, dx, _, _, _, rfl, hxF, rfl, mc_fewest T, _, rfl, _, rfl, .ref x, .ref lg, c8, st, g0, gs, wishO s' (some g), 250, rfl, hsh, n4, ns.bd, .lst (SqL.of (tF _ _ hlg3)) (hgv3.keep tF), h4, gb, dW.keep sx, wbd, by decide, by decide, fun l c HX SX nl hl cin hdo hmin => ?_, fun hno HX SX => ?_⟩
    · have cgd := (gdm c).mpr ⟨cin, by rw [← dm c cin]; exact hdo⟩
      have gne : gd ≠ [] := fun e => by rw [e] at cgd; cases cgd
      have SY := sF.trans SX
      refine ⟨_, rfl, (by show 0 ≤ sizeLine; decide), fun pe hpe => ?_⟩
      have uE := same_new hpe (.lst [])
      have dE : DV K (upd HX pe (.lst [])) (.ref pe) (.list []) := .lst (SqL.of upd_same) .nil
      have SZ := SY.trans uE
      have SW := SX.trans uE
      have hlE := uE _ _ hl
      generalize upd HX pe (.lst []) = HE at dE SZ SW hlE ⊢
      have sokg : ∀ c ∈ gd, ∀ z ∈ c, PyData.strOk z = true := fun c hc z hz => sok z (((gdm c).mp hc).1.2 z hz)
      have dG : DV K HE (.ref p6) (.list (gd.map chD)) := .lst (SqL.of (SZ _ _ m6)) (hys.keep SZ).dvs
      refine eq_nil dG dE (flat_lst (n := 1) fun d hd => by obtain ⟨c, hc, rfl⟩ := List.mem_map.mp hd; exact flat_ch (sokg c hc)) ⟨_, rfl, ?_⟩
      refine iteF' (by cases gd with | nil => exact absurd rfl gne | cons _ _ => rfl) ?_
      have fD : DV K HE (.ref l) (chD c) := .lst (SqL.of hlE) (dvs_strs c)
      refine ⟨_, rfl, _, _, _, _, rfl, fD, isLst_b _, _, rfl, iteT ?_⟩
      refine ⟨_, rfl, _, rfl, in_cs sokg (SqL.of (SZ _ _ m6)) (hys.keep SZ) fD cgd ⟨_, rfl, iteT ?_⟩⟩
      refine ⟨_, rfl, l, c, rfl, SqL.of hlE, by rw [cin.1]; omega, fun HG sG => ?_⟩
      have SG := SZ.trans sG
      refine ⟨_, rfl, p6, rfl, ⟨_, SqL.of (SG _ _ m6)⟩, ?_⟩
      have yl := hys.len
      refine comp_list0 (K := K) (a := p6) (xs := ys) (fun i σ zs H' => ∃ c0, σ = [c0] ∧ Same HG H' ∧ zs = ((gd.take i).map fun c => (gmany c : Int)).map V.int) ⟨_, rfl, Same.refl _, rfl⟩ ?_ ?_ ?_
      · rintro i σ zs H' hi ⟨c0, rfl, sH, rfl⟩
        refine ⟨?_, SqL.of ((SG.trans sH) _ _ m6)⟩
        rw [List.length_map, List.length_map, List.length_take]
        exact Nat.le_of_lt (small1000 (by omega))
      · rintro i v σ zs H' hi ⟨c0, rfl, sH, rfl⟩
        obtain ⟨lx, cx, rfl, ec, _, hlx⟩ := hys.get hi
        have cinx := ((gdm cx).mp (List.mem_of_getElem? ec)).1
        refine ⟨_, rfl, lx, cx, rfl, SqL.of ((SG.trans sH) _ _ hlx), by rw [cinx.1]; omega, fun H8' s8' => nx (lt_of_get hi) ⟨_, rfl, sH.trans s8', ?_⟩⟩
        rw [List.take_add_one, ec, List.map_append, List.map_append]
        rfl
      · rintro σ zs H' pz ⟨c0, rfl, sH, rfl⟩ hpz
        rw [yl, List.take_length]
        have uz := same_new hpz (.lst ((gd.map fun c => (gmany c : Int)).map V.int))
        refine ⟨pz, _, rfl, SqL.of upd_same, fun e => gne (List.map_eq_nil_iff.mp e), fun m hm hm2 => ⟨rfl, ?_⟩⟩
        obtain ⟨c', hc', rfl⟩ := List.mem_map.mp hm
        have a1 := hmin c' ((gdm c').mp hc').1 (by rw [dm c' ((gdm c').mp hc').1]; exact ((gdm c').mp hc').2)
        have a2 := hm2 _ (List.mem_map.mpr ⟨c, cgd, rfl⟩)
        rw [decI, decide_eq_true (by omega)]
        exact q' (SW.trans (sG.trans (sH.trans uz)))
    · have gn : gd = [] := by
        rcases gd with _ | ⟨c, gd⟩
        · rfl
        · obtain ⟨h1, h2⟩ := (gdm c).mp List.mem_cons_self
          have := hno c h1
          rw [dm c h1, h2] at this
          cases this
      have SY := sF.trans SX
      refine ⟨_, rfl, (by show 0 ≤ sizeLine; decide), fun pe hpe => ?_⟩
      have uE := same_new hpe (.lst [])
      have dE : DV K (upd HX pe (.lst [])) (.ref pe) (.list []) := .lst (SqL.of upd_same) .nil
      have SZ := SY.trans uE
      have SW := SX.trans uE
      generalize upd HX pe (.lst []) = HE at dE SZ SW ⊢
      have dG : DV K HE (.ref p6) (.list (gd.map chD)) := .lst (SqL.of (SZ _ _ m6)) (hys.keep SZ).dvs
      refine eq_nil dG dE (flat_lst (n := 1) fun d hd => by rw [gn] at hd; cases hd) ⟨_, rfl, ?_⟩
      refine iteT' (by rw [gn]; rfl) ?_
      exact ⟨_, rfl, rfl, q' SW⟩
end
end K65
namespace K65
open PySem L2 Lib Fr Op
seal PE PT PW PA PS PSs PG PGs PI PO PIfs
section
variable {P : Program} {w : World} {K : PySem.W.Frag} {mg : Str → Option Value} {base : Heap} {ad : Adr} {c : Bool}
theorem ok_law (T : Txt K mg ad) {fa : Addr} {fd : FuncData} (F : Fun K "law" "law" s_law fa fd) : FnB P w K mg base true 11 fa fd ["_law_script"] (spLaw K) := by
  have C__law_source := c__law_source (P := P) (w := w) (base := base) T
  have C__law_draw := c__law_draw (P := P) (w := w) (base := base) T
  have C__law_step := c__law_step (P := P) (w := w) (base := base) T
  have M_Shop := k_Shop (P := P) (w := w) (base := base) T
  refine F.okB sc_law (fun vs H Q E h => ?_) (fun cdv A outer s H vs Q E hr h => ?_)
  · obtain ⟨a, ns, rfl, _⟩ := h; rfl
  obtain ⟨a, ns, rfl, hS, h63, q⟩ := h
  refine ⟨_, (pss_cons (ps_for PassesOwn.never rfl (pi_range1 rfl T.range (pa_call (pe_callB (call_min2 rfl) rfl T.min bt_min (pa_call (pe_callB call_len_seq rfl T.len bt_len (pa_name (pv 0) pa_nil)) (pa_const pe_int pa_nil))) pa_nil)) (pg_name (i := 1) sc_law.nd rfl (by first | exact Or.inl rfl | exact Or.inr rfl)) (pss_cons (ps_set (i := 2) sc_law.nd rfl (Or.inl rfl) (pe_cB C__law_source (hr.mono (by decide)) pass01 (pa_name (pv 0) (pa_name (pv 1) pa_nil)))) (pss_cons (ps_set (i := 3) sc_law.nd rfl (Or.inl rfl) (pe_lst (pa_const pe_int (pa_const pe_int pa_nil)))) (pss_cons (ps_if (pt_cmpR op_eq (pv 1) pe_int (nomark _)) (pss_one (ps_set (i := 3) sc_law.nd rfl (Or.inl rfl) (pe_ix ix_list (pe_lst (pa_list (pe_lst (pa_const pe_int (pa_const pe_int pa_nil))) (pa_list (pe_lst (pa_const pe_int (pa_const pe_int pa_nil))) (pa_list (pe_lst (pa_const pe_int (pa_const pe_int pa_nil))) pa_nil)))) (pe_cB C__law_draw (hr.mono (by decide)) pass01 (pa_name (pv 2) (pa_const pe_int pa_nil))) (fun _ _ => rfl)))) pss_nil) (pss_one (ps_if (pt_not (pt_val (pe_cB C__law_step (hr.mono (by decide)) pass01 (pa_name (pv 2) (pa_name (pv 3) pa_nil))))) (pss_one (ps_ret pe_bl)) pss_nil)))))) (pss_one (ps_ret (pe_cmpR (op_eqD hr.units) (pe_mB (k := 8) (pe_mkB M_Shop (hr.mono (by decide)) (pa_list (pe_lst (pa_tuple (pe_tup (pa_const pe_str (pa_tuple (pe_tup (pa_const pe_int (pa_const pe_int pa_nil))) pa_nil))) pa_nil)) pa_nil)) (hr.mono (by decide)) (pa_list (pe_lst (pa_tuple (pe_tup (pa_const pe_int (pa_const pe_int pa_nil))) (pa_tuple (pe_tup (pa_const pe_int (pa_const pe_int pa_nil))) pa_nil))) (pa_tuple (pe_tup (pa_const pe_str (pa_tuple (pe_tup (pa_un (pe_un un_neg pe_int) (pa_const pe_int pa_nil))) pa_nil))) pa_nil))) (pe_lst (pa_const pe_str pa_nil)) (nomark _))))), ?_⟩
  refine ⟨_, rfl, a, _, rfl, .inl hS, _, _, rfl, ?_⟩
  generalize hj : (if (3 : Int) < (((ns.map V.int).length : Nat) : Int) then (3 : Int) else (((ns.map V.int).length : Nat) : Int)) = j
  have j0 : 0 ≤ j ∧ j ≤ 3 := by rw [← hj]; split <;> omega
  refine ⟨_, rfl, by omega, by omega, ?_⟩
  refine for_range (lo := 0) (n := j.toNat) (fun i σ H' => ∃ c1 c2 c3, σ = [some (.ref a), c1, c2, c3] ∧ Same H H') ⟨_, _, _, rfl, Same.refl _⟩ ?_ ?_
  · rintro i σ H' hi ⟨c1, c2, c3, rfl, s'⟩
    refine ⟨_, rfl, _, rfl, a, ns, _, rfl, hS.keep s', by omega, by omega, fun d H2 s2 nd hd => ?_⟩
    refine ⟨(by show 2 ≤ sizeLine; decide), fun p3 hp3 => ?_⟩
    have u3 := same_new hp3 (.lst [.int 3, .int 2])
    have m3 : upd H2 p3 (.lst [.int 3, .int 2]) p3 = some (.lst [.int 3, .int 2]) := upd_same
    have n3 := hd.nd hp3
    have hd3 := hd.keep u3
    generalize upd H2 p3 (.lst [.int 3, .int 2]) = H3 at u3 m3 hd3 ⊢
    have t3 := s2.trans u3
    have nd' : H d = none := s'.free nd
    refine ⟨_, rfl, rfl, _, rfl, ?_⟩
    by_cases i0 : i = 0
    · subst i0
      refine iteT' (by decide) ?_
      refine ⟨(by show 2 ≤ sizeLine; decide), fun q1 hq1 => ?_⟩
      have v1 := same_new hq1 (.lst [.int 3, .int 3])
      have l1 : upd H3 q1 (.lst [.int 3, .int 3]) q1 = some (.lst [.int 3, .int 3]) := upd_same
      have k1 := hd3.nd hq1
      generalize upd H3 q1 (.lst [.int 3, .int 3]) = G1 at v1 l1 ⊢
      refine ⟨(by show 2 ≤ sizeLine; decide), fun q2 hq2 => ?_⟩
      have v2 := same_new hq2 (.lst [.int 4, .int 2])
      have l2 : upd G1 q2 (.lst [.int 4, .int 2]) q2 = some (.lst [.int 4, .int 2]) := upd_same
      have k2 := (hd3.keep v1).nd hq2
      generalize upd G1 q2 (.lst [.int 4, .int 2]) = G2 at v2 l2 ⊢
      refine ⟨(by show 2 ≤ sizeLine; decide), fun q3 hq3 => ?_⟩
      have v3 := same_new hq3 (.lst [.int 1, .int 4])
      have l3 : upd G2 q3 (.lst [.int 1, .int 4]) q3 = some (.lst [.int 1, .int 4]) := upd_same
      have k3 := (hd3.keep (v1.trans v2)).nd hq3
      generalize upd G2 q3 (.lst [.int 1, .int 4]) = G3 at v3 l3 ⊢
      refine ⟨(by show 3 ≤ sizeLine; decide), fun q4 hq4 => ?_⟩
      have v4 := same_new hq4 (.lst [.ref q1, .ref q2, .ref q3])
      have l4 : upd G3 q4 (.lst [.ref q1, .ref q2, .ref q3]) q4 = some (.lst [.ref q1, .ref q2, .ref q3]) := upd_same
      have hd4 := hd3.keep (v1.trans (v2.trans (v3.trans v4)))
      have k4 := (hd3.keep (v1.trans (v2.trans v3))).nd hq4
      have l1 := (v2.trans (v3.trans v4)) _ _ l1
      have l2 := (v3.trans v4) _ _ l2
      have l3 := v4 _ _ l3
      have t4 := t3.trans (v1.trans (v2.trans (v3.trans v4)))
      generalize upd G3 q4 (.lst [.ref q1, .ref q2, .ref q3]) = G4 at l4 hd4 l1 l2 l3 t4 ⊢
      refine ⟨_, rfl, d, 3, rfl, hd4, ⟨by decide, by decide⟩, fun x G5 x0 x1 hd5 sd5 => ?_⟩
      obtain ⟨v, hv, hm⟩ := atI_in (xs := [V.ref q1, .ref q2, .ref q3]) (r := x) x0 (by simp only [List.length_cons, List.length_nil]; omega)
      obtain ⟨pz, a', b', rfl, hz, nz, a1, a4, b1, b4⟩ : ∃ (pz : Addr) (a' b' : Int), v = .ref pz ∧ G5 pz = some (.lst [.int a', .int b']) ∧ pz ≠ d ∧ 1 ≤ a' ∧ a' ≤ 4 ∧ 1 ≤ b' ∧ b' ≤ 4 := by
        simp only [List.mem_cons, List.not_mem_nil, or_false] at hm
        rcases hm with rfl | rfl | rfl
        · exact ⟨q1, 3, 3, rfl, sd5 _ _ k1 l1, k1, by decide, by decide, by decide, by decide⟩
        · exact ⟨q2, 4, 2, rfl, sd5 _ _ k2 l2, k2, by decide, by decide, by decide, by decide⟩
        · exact ⟨q3, 1, 4, rfl, sd5 _ _ k3 l3, k3, by decide, by decide, by decide, by decide⟩
      refine ⟨q4, _, _, _, rfl, rfl, SqL.of (sd5 _ _ k4 l4), hv, ?_⟩
      refine ⟨_, rfl, _, rfl, d, pz, a', b', rfl, hd5, hz, a1, a4, b1, b4, nz, fun H6 sd6 => ⟨_, rfl, iteF ?_⟩⟩
      exact ⟨_, _, _, rfl, SD.same (s'.trans t4) nd' (sd5.trans sd6)⟩
    · refine iteF' (by rw [decI]; exact decide_eq_false (by omega)) ?_
      refine ⟨_, rfl, _, rfl, d, p3, 3, 2, rfl, hd3, m3, by decide, by decide, by decide, by decide, n3, fun H6 sd6 => ⟨_, rfl, iteF ?_⟩⟩
      exact ⟨_, _, _, rfl, SD.same (s'.trans t3) nd' sd6⟩
  · rintro σ H' ⟨c1, c2, c3, rfl, s'⟩
    refine ⟨(by show 2 ≤ sizeLine; decide), fun r1 hr1 => ?_⟩
    have v1 := same_new hr1 (.tup [.int 1, .int 1])
    have e1 : DV K (upd H' r1 (.tup [.int 1, .int 1])) (.ref r1) (frD 1) := .tup (SqT.of upd_same) (.cons (.int _) (.cons (.int _) .nil))
    generalize upd H' r1 (.tup [.int 1, .int 1]) = J1 at v1 e1 ⊢
    refine ⟨(by show 2 ≤ sizeLine; decide), fun r2 hr2 => ?_⟩
    have v2 := same_new hr2 (.tup [.str "a", .ref r1])
    have e2 : DV K (upd J1 r2 (.tup [.str "a", .ref r1])) (.ref r2) (kindD (PySem.Str.ofString "a", 1)) := .tup (SqT.of upd_same) (.cons (.str _) (.cons (e1.keep v2) .nil))
    generalize upd J1 r2 (.tup [.str "a", .ref r1]) = J2 at v2 e2 ⊢
    refine ⟨(by show 1 ≤ sizeLine; decide), fun r3 hr3 => ?_⟩
    have v3 := same_new hr3 (.lst [.ref r2])
    have e3 : DV K (upd J2 r3 (.lst [.ref r2])) (.ref r3) (.list ([(PySem.Str.ofString "a", 1)].map kindD)) := .lst (SqL.of upd_same) (.cons (e2.keep v3) .nil)
    generalize upd J2 r3 (.lst [.ref r2]) = J3 at v3 e3 ⊢
    have so : StockOk [(PySem.Str.ofString "a", 1)] := ⟨by decide, (fun k hk => by rw [List.mem_singleton.mp hk]; decide +kernel), (fun k hk => by rw [List.mem_singleton.mp hk]; decide), by simp⟩
    refine fun x dx nx1 ndx ne => ?_
    have w1 : Same J3 (upd (upd J3 dx (.own x)) x (.ins ad.Shop dx [])) := fun b o e => by rw [upd_ne (ne_of_none e nx1), upd_ne (ne_of_none e ndx)]; exact e
    refine ⟨x, dx, .ref r3, _, rfl, upd_same, e3.keep w1, stockB_good so, sok_good so.nm, fun ks2 l3 H4 s4 nl3 hl3 hks3 => ⟨rfl, ?_⟩⟩
    have ne3 : l3 ≠ x := fun e => by rw [e, upd_same] at nl3; cases nl3
    have uT : SameT H4 (upd H4 x (.ins ad.Shop dx [("stock", .ref l3)])) := sameT_ins (s4 _ _ upd_same) _
    have hsh : ShopAt K ad.Shop (upd H4 x (.ins ad.Shop dx [("stock", .ref l3)])) (.ref x) [(PySem.Str.ofString "a", 1)] := ⟨x, dx, l3, ks2, rfl, upd_same, (upd_ne ne3).trans hl3, dvs_keepT uT (noLs_map (fun _ => rfl) _) hks3⟩
    generalize upd H4 x (.ins ad.Shop dx [("stock", .ref l3)]) = H5 at hsh ⊢
    obtain ⟨a6, dx6, l6, k6, e6, ha6, _⟩ := id hsh
    cases e6
    refine ⟨x, _, dx6, _, _, _, rfl, ha6, rfl, mc_fewest T, ?_⟩
    refine ⟨(by show 2 ≤ sizeLine; decide), fun r4 hr4 => ?_⟩
    have v4 := same_new hr4 (.tup [.int 1, .int 1])
    have e4 : DV K (upd H5 r4 (.tup [.int 1, .int 1])) (.ref r4) (frD 1) := .tup (SqT.of upd_same) (.cons (.int _) (.cons (.int _) .nil))
    generalize upd H5 r4 (.tup [.int 1, .int 1]) = J4 at v4 e4 ⊢
    refine ⟨(by show 2 ≤ sizeLine; decide), fun r5 hr5 => ?_⟩
    have v5 := same_new hr5 (.tup [.int 2, .int 1])
    have e5 : DV K (upd J4 r5 (.tup [.int 2, .int 1])) (.ref r5) (frD 2) := .tup (SqT.of upd_same) (.cons (.int _) (.cons (.int _) .nil))
    generalize upd J4 r5 (.tup [.int 2, .int 1]) = J5 at v5 e5 ⊢
    refine ⟨(by show 2 ≤ sizeLine; decide), fun r6 hr6 => ?_⟩
    have v6 := same_new hr6 (.lst [.ref r4, .ref r5])
    have e6 : DV K (upd J5 r6 (.lst [.ref r4, .ref r5])) (.ref r6) (.list [frD 1, frD 2]) := .lst (SqL.of upd_same) (.cons (e4.keep (v5.trans v6)) (.cons (e5.keep v6) .nil))
    generalize upd J5 r6 (.lst [.ref r4, .ref r5]) = J6 at v6 e6 ⊢
    refine ⟨_, rfl, (by show 2 ≤ sizeLine; decide), fun r7 hr7 => ?_⟩
    have v7 := same_new hr7 (.tup [.int (-3), .int 1])
    have e7 : DV K (upd J6 r7 (.tup [.int (-3), .int 1])) (.ref r7) (frD (-3)) := .tup (SqT.of upd_same) (.cons (.int _) (.cons (.int _) .nil))
    generalize upd J6 r7 (.tup [.int (-3), .int 1]) = J7 at v7 e7 ⊢
    refine ⟨(by show 2 ≤ sizeLine; decide), fun r8 hr8 => ?_⟩
    have v8 := same_new hr8 (.tup [.str "image", .ref r7])
    have e8 : DV K (upd J7 r8 (.tup [.str "image", .ref r7])) (.ref r8) (wishD (.image (-3))) := .tup (SqT.of upd_same) (.cons (.str _) (.cons (e7.keep v8) .nil))
    generalize upd J7 r8 (.tup [.str "image", .ref r7]) = J8 at v8 e8 ⊢
    have t4 := v4.trans (v5.trans (v6.trans (v7.trans v8)))
    have t6 := v7.trans v8
    have b7 : ∀ k ∈ [(PySem.Str.ofString "a", (1 : Rat))], Bd 7 k.2 := fun k hk => by rw [List.mem_singleton.mp hk]; exact ⟨by decide +kernel, by decide +kernel⟩
    have g7 : ∀ g ∈ [(1 : Rat), 2], Bd 7 g := fun k hk => by
      simp only [List.mem_cons, List.not_mem_nil, or_false] at hk
      rcases hk with rfl | rfl <;> exact ⟨by decide +kernel, by decide +kernel⟩
    have b3 : Bd 250 (-3 : Rat) := (⟨by decide +kernel, by decide +kernel⟩ : Bd 7 (-3 : Rat)).mono (by decide)
    have d0 : doesB (tabOf (dueB [(PySem.Str.ofString "a", (1 : Rat))] 1 [2] [PySem.Str.ofString ""])) (.image (-3)) = true := by decide +kernel
    have i0 : inN [(PySem.Str.ofString "a", (1 : Rat))] [(2 : Rat)].length [PySem.Str.ofString ""] := ⟨rfl, fun z hz => by rw [List.mem_singleton.mp hz]; exact List.mem_cons_self⟩
    refine ⟨.ref x, .ref r6, .ref r8, _, 1, [2], .image (-3), 250, rfl, hsh.keep t4, by decide, b7, (e6.keep t6 : DV K J8 (.ref r6) (.list [frD 1, frD 2])), by decide, g7, e8, b3, by decide, by decide, fun l c HX SX nl hl cin hdo hmin => ?_, fun hno HX SX => ?_⟩
    · have hm := hmin _ i0 d0
      have c0 : c = [PySem.Str.ofString ""] := by
        obtain ⟨c', z, rfl, hc', hz⟩ := inN_snoc (n := 0) cin
        rw [List.eq_nil_of_length_eq_zero hc'.1] at hm ⊢
        rcases List.mem_cons.mp hz with rfl | m
        · rfl
        · exfalso
          obtain rfl : z = PySem.Str.ofString "a" := by simpa using m
          revert hm
          decide +kernel
      subst c0
      refine ⟨(by show 1 ≤ sizeLine; decide), fun pe hpe => ?_⟩
      have uE := same_new hpe (.lst [.str ""])
      exact eq_same (d := .list [.str ""]) (n := 1) (.lst (SqL.of (uE _ _ hl)) (.cons (.str _) .nil)) (.lst (SqL.of upd_same) (.cons (.str _) .nil)) ⟨by decide +kernel, by decide⟩ (q _)
    · have := hno _ i0
      rw [d0] at this
      cases this
theorem law_fd {fa : Addr} (F : TopFn K mg "law" s_law) (hmg : mg "law" = some (.ref fa)) : ∃ fd, Fun K "law" "law" s_law fa fd ∧ ∀ (s : Shared) (u : Value), BindsTo s fd ⟨[u], []⟩ [("_law_script", u)] := by
  obtain ⟨f, fd, F, hm⟩ := F.ex
  cases hmg.symm.trans hm
  obtain ⟨oc, od, kV, doc, pm, an, cdv, ct, osl, rfl, l, c⟩ := id F.ex
  exact ⟨_, F, fun s u => .of_eq rfl⟩
end
end K65
namespace K65
open PySem L2 Lib
theorem walk {l : PySem.W.OpenLaw} {q : Program} {loose : List Str} {XP : (Str → Option Value) → Heap → Prop} {YP : World → Heap → Prop} {d : DefRec} {K : Params → PySem.W.Frag} (hn : l.most = some 63) (hdf : d.params.defaults = [])
    (hY : ∀ (w : World) (h : Heap), YP w h → (K w.params).In h)
    (F : ∀ (w : World) (mg : Str → Option Value) (fa : Addr) (h : Heap), (K w.params).In h → h.Ns mainGlobals mg → mg d.name = some (.ref fa) →
      ∃ fd : FuncData, (∀ (s : Shared) (u : Value), BindsTo s fd ⟨[u], []⟩ [("_law_script", u)]) ∧ ∀ base : Heap, (K w.params).In base → base.Ns mainGlobals mg → FnOk l.prog w (K w.params) mg base (CX1 l.prog w) 11 fa fd ["_law_script"] (spLaw (K w.params))) :
    PySem.W.WalkO q loose XP YP l.row.toRowW d [] (fun f vs => PySem.call f vs) :=
  L2.walk_of (n := 63) (k := 11) (x := "_law_script") (CX := fun w => CX1 l.prog w) (sp := fun w => spLaw (K w.params)) hn (by decide) hdf ⟨rfl, by decide, by decide⟩ hY F (fun _ _ a ns hl _ hS => ⟨a, ns, rfl, hS, hl, fun _ => rfl⟩) fun _ _ _ _ _ z => by
    obtain ⟨_, _, _, _, _, _, _, _, _, _, _, _, q⟩ := z
    exact q
end K65
def PySem.W.Fast.tw15474855380059556569 : Unit := ()
def PySem.W.Fast.tw2838288401075389359 : Unit := ()
def PySem.W.Fast.tw17245713063930647013 : Unit := ()
def PySem.W.Fast.tw16237475835267780896 : Unit := ()
def PySem.W.Fast.tw3402088883428540429 : Unit := ()
def PySem.W.Fast.tw2176245876519194093 : Unit := ()
def PySem.W.Fast.tw9455049515367612757 : Unit := ()
def PySem.W.Fast.tw2995753290935126406 : Unit := ()
def PySem.W.Fast.tw17705680890286956790 : Unit := ()
def PySem.W.Fast.tw10073911414769892367 : Unit := ()
def PySem.W.Fast.tw16604385822749836204 : Unit := ()
def PySem.W.Fast.tw18288143943833725910 : Unit := ()
def PySem.W.Fast.tw3605648780488083218 : Unit := ()
def PySem.W.Fast.tw9378498524639916571 : Unit := ()
def PySem.W.Fast.tw4969449196537182923 : Unit := ()
def PySem.W.Fast.tw3780235896038953057 : Unit := ()
def PySem.W.Fast.tw12053276990546776783 : Unit := ()
def PySem.W.Fast.tw2657516068915119206 : Unit := ()
def PySem.W.Fast.tw8862182468272912832 : Unit := ()
def PySem.W.Fast.tw5730351968909763082 : Unit := ()
def PySem.W.Fast.tw1374668598276150167 : Unit := ()
def PySem.W.Fast.tw3039822835320389777 : Unit := ()
def PySem.W.Fast.tw10937009348539388923 : Unit := ()
def PySem.W.Fast.tw17747599773546080280 : Unit := ()
def PySem.W.Fast.tw7668092231699018390 : Unit := ()
def PySem.W.Fast.tw10240945688743911713 : Unit := ()
def PySem.W.Fast.tw14402380223346145200 : Unit := ()
def PySem.W.Fast.tw6562515045818968331 : Unit := ()
def PySem.W.Fast.tw10811772957182781190 : Unit := ()
def PySem.W.Fast.tw15673636542700485327 : Unit := ()
def PySem.W.Fast.tw6288633650559106786 : Unit := ()
def PySem.W.Fast.tw14714874147780474434 : Unit := ()
def PySem.W.Fast.tw2475058608948691646 : Unit := ()
def PySem.W.Fast.tw12436501488486933216 : Unit := ()
def PySem.W.Fast.tw13258147813138555708 : Unit := ()
def PySem.W.Fast.tw1550549164981510252 : Unit := ()
def PySem.W.Fast.tw16422909816991307875 : Unit := ()
def PySem.W.Fast.tw17199851481398392682 : Unit := ()
def PySem.W.Fast.tw3291829004240797856 : Unit := ()
def PySem.W.Fast.tw18178894903161922939 : Unit := ()
def PySem.W.Fast.tw7632605207787778262 : Unit := ()
def PySem.W.Fast.tw11632575005036317870 : Unit := ()
def PySem.W.Fast.tw3607835248602180994 : Unit := ()
def PySem.W.Fast.tw1990028993231047367 : Unit := ()
def PySem.W.Fast.tw6943390202412494692 : Unit := ()
def PySem.W.Fast.tw11613363110270481935 : Unit := ()
def PySem.W.Fast.tw8016302273460195745 : Unit := ()
def PySem.W.Fast.tw16276243267217207695 : Unit := ()
def PySem.W.Fast.tw108787187911698628 : Unit := ()
def PySem.W.Fast.tw7746469167746648864 : Unit := ()
def PySem.W.Fast.tw6492494470386412609 : Unit := ()
def PySem.W.Fast.tw11249985662740914175 : Unit := ()
open PySem PySem.W PyProof.Rows
set_option maxRecDepth 100000 in
set_option maxHeartbeats 0 in
theorem PySem.Challenge.cw_grindbench_k65_whole_wished_images_holds : PySem.Challenge.rw_grindbench_k65_whole_wished_images.Holds := by
  w_on; o_law; k_head; (case hw => w_witness2)
  k_fill
  refine K65.walk (l := PySem.Challenge.rw_grindbench_k65_whole_wished_images) rfl rfl (fun w h Y => PySem.W.kIn_of Y) ?F
  case F =>
    intro w mg fa h KX G hmg
    have t_is_whole : L2.TopFn (L2.KOf KX) mg "is_whole" K65.s_is_whole := by
      dsimp only [L2.KOf]
      refine' L2.topFn_mk KX G ?a ?l ?c ?k
      (case a => k_is); (case l => k_is); (case c => k_is); (case k => k_is)
    have t_common_divisor : L2.TopFn (L2.KOf KX) mg "common_divisor" K65.s_common_divisor := by
      dsimp only [L2.KOf]
      refine' L2.topFn_mk KX G ?a ?l ?c ?k
      (case a => k_is); (case l => k_is); (case c => k_is); (case k => k_is)
    have t_is_ratio : L2.TopFn (L2.KOf KX) mg "is_ratio" K65.s_is_ratio := by
      dsimp only [L2.KOf]
      refine' L2.topFn_mk KX G ?a ?l ?c ?k
      (case a => k_is); (case l => k_is); (case c => k_is); (case k => k_is)
    have t_ratio_of : L2.TopFn (L2.KOf KX) mg "ratio_of" K65.s_ratio_of := by
      dsimp only [L2.KOf]
      refine' L2.topFn_mk KX G ?a ?l ?c ?k
      (case a => k_is); (case l => k_is); (case c => k_is); (case k => k_is)
    have t_sum_of : L2.TopFn (L2.KOf KX) mg "sum_of" K65.s_sum_of := by
      dsimp only [L2.KOf]
      refine' L2.topFn_mk KX G ?a ?l ?c ?k
      (case a => k_is); (case l => k_is); (case c => k_is); (case k => k_is)
    have t_less_by : L2.TopFn (L2.KOf KX) mg "less_by" K65.s_less_by := by
      dsimp only [L2.KOf]
      refine' L2.topFn_mk KX G ?a ?l ?c ?k
      (case a => k_is); (case l => k_is); (case c => k_is); (case k => k_is)
    have t_product_of : L2.TopFn (L2.KOf KX) mg "product_of" K65.s_product_of := by
      dsimp only [L2.KOf]
      refine' L2.topFn_mk KX G ?a ?l ?c ?k
      (case a => k_is); (case l => k_is); (case c => k_is); (case k => k_is)
    have t_quotient_of : L2.TopFn (L2.KOf KX) mg "quotient_of" K65.s_quotient_of := by
      dsimp only [L2.KOf]
      refine' L2.topFn_mk KX G ?a ?l ?c ?k
      (case a => k_is); (case l => k_is); (case c => k_is); (case k => k_is)
    have t_is_less : L2.TopFn (L2.KOf KX) mg "is_less" K65.s_is_less := by
      dsimp only [L2.KOf]
      refine' L2.topFn_mk KX G ?a ?l ?c ?k
      (case a => k_is); (case l => k_is); (case c => k_is); (case k => k_is)
    have t_is_piece : L2.TopFn (L2.KOf KX) mg "is_piece" K65.s_is_piece := by
      dsimp only [L2.KOf]
      refine' L2.topFn_mk KX G ?a ?l ?c ?k
      (case a => k_is); (case l => k_is); (case c => k_is); (case k => k_is)
    have t_piece_of : L2.TopFn (L2.KOf KX) mg "piece_of" K65.s_piece_of := by
      dsimp only [L2.KOf]
      refine' L2.topFn_mk KX G ?a ?l ?c ?k
      (case a => k_is); (case l => k_is); (case c => k_is); (case k => k_is)
    have t_look_at : L2.TopFn (L2.KOf KX) mg "look_at" K65.s_look_at := by
      dsimp only [L2.KOf]
      refine' L2.topFn_mk KX G ?a ?l ?c ?k
      (case a => k_is); (case l => k_is); (case c => k_is); (case k => k_is)
    have t_is_table : L2.TopFn (L2.KOf KX) mg "is_table" K65.s_is_table := by
      dsimp only [L2.KOf]
      refine' L2.topFn_mk KX G ?a ?l ?c ?k
      (case a => k_is); (case l => k_is); (case c => k_is); (case k => k_is)
    have t_look_at_table : L2.TopFn (L2.KOf KX) mg "look_at_table" K65.s_look_at_table := by
      dsimp only [L2.KOf]
      refine' L2.topFn_mk KX G ?a ?l ?c ?k
      (case a => k_is); (case l => k_is); (case c => k_is); (case k => k_is)
    have t_table_of_rays : L2.TopFn (L2.KOf KX) mg "table_of_rays" K65.s_table_of_rays := by
      dsimp only [L2.KOf]
      refine' L2.topFn_mk KX G ?a ?l ?c ?k
      (case a => k_is); (case l => k_is); (case c => k_is); (case k => k_is)
    have t_table_of : L2.TopFn (L2.KOf KX) mg "table_of" K65.s_table_of := by
      dsimp only [L2.KOf]
      refine' L2.topFn_mk KX G ?a ?l ?c ?k
      (case a => k_is); (case l => k_is); (case c => k_is); (case k => k_is)
    have t_made_by : L2.TopFn (L2.KOf KX) mg "made_by" K65.s_made_by := by
      dsimp only [L2.KOf]
      refine' L2.topFn_mk KX G ?a ?l ?c ?k
      (case a => k_is); (case l => k_is); (case c => k_is); (case k => k_is)
    have t_joined : L2.TopFn (L2.KOf KX) mg "joined" K65.s_joined := by
      dsimp only [L2.KOf]
      refine' L2.topFn_mk KX G ?a ?l ?c ?k
      (case a => k_is); (case l => k_is); (case c => k_is); (case k => k_is)
    have t_spread_of : L2.TopFn (L2.KOf KX) mg "spread_of" K65.s_spread_of := by
      dsimp only [L2.KOf]
      refine' L2.topFn_mk KX G ?a ?l ?c ?k
      (case a => k_is); (case l => k_is); (case c => k_is); (case k => k_is)
    have t_image_of : L2.TopFn (L2.KOf KX) mg "image_of" K65.s_image_of := by
      dsimp only [L2.KOf]
      refine' L2.topFn_mk KX G ?a ?l ?c ?k
      (case a => k_is); (case l => k_is); (case c => k_is); (case k => k_is)
    have t_growth_of : L2.TopFn (L2.KOf KX) mg "growth_of" K65.s_growth_of := by
      dsimp only [L2.KOf]
      refine' L2.topFn_mk KX G ?a ?l ?c ?k
      (case a => k_is); (case l => k_is); (case c => k_is); (case k => k_is)
    have t_is_name : L2.TopFn (L2.KOf KX) mg "is_name" K65.s_is_name := by
      dsimp only [L2.KOf]
      refine' L2.topFn_mk KX G ?a ?l ?c ?k
      (case a => k_is); (case l => k_is); (case c => k_is); (case k => k_is)
    have t_is_kind : L2.TopFn (L2.KOf KX) mg "is_kind" K65.s_is_kind := by
      dsimp only [L2.KOf]
      refine' L2.topFn_mk KX G ?a ?l ?c ?k
      (case a => k_is); (case l => k_is); (case c => k_is); (case k => k_is)
    have t_is_stock : L2.TopFn (L2.KOf KX) mg "is_stock" K65.s_is_stock := by
      dsimp only [L2.KOf]
      refine' L2.topFn_mk KX G ?a ?l ?c ?k
      (case a => k_is); (case l => k_is); (case c => k_is); (case k => k_is)
    have t_look_at_gaps : L2.TopFn (L2.KOf KX) mg "look_at_gaps" K65.s_look_at_gaps := by
      dsimp only [L2.KOf]
      refine' L2.topFn_mk KX G ?a ?l ?c ?k
      (case a => k_is); (case l => k_is); (case c => k_is); (case k => k_is)
    have t_is_wish : L2.TopFn (L2.KOf KX) mg "is_wish" K65.s_is_wish := by
      dsimp only [L2.KOf]
      refine' L2.topFn_mk KX G ?a ?l ?c ?k
      (case a => k_is); (case l => k_is); (case c => k_is); (case k => k_is)
    have t_does : L2.TopFn (L2.KOf KX) mg "does" K65.s_does := by
      dsimp only [L2.KOf]
      refine' L2.topFn_mk KX G ?a ?l ?c ?k
      (case a => k_is); (case l => k_is); (case c => k_is); (case k => k_is)
    have t_glasses_in : L2.TopFn (L2.KOf KX) mg "glasses_in" K65.s_glasses_in := by
      dsimp only [L2.KOf]
      refine' L2.topFn_mk KX G ?a ?l ?c ?k
      (case a => k_is); (case l => k_is); (case c => k_is); (case k => k_is)
    have t__law_cell_at : L2.TopFn (L2.KOf KX) mg "_law_cell_at" K65.s__law_cell_at := by
      dsimp only [L2.KOf]
      refine' L2.topFn_mk KX G ?a ?l ?c ?k
      (case a => k_is); (case l => k_is); (case c => k_is); (case k => k_is)
    have t__law_source : L2.TopFn (L2.KOf KX) mg "_law_source" K65.s__law_source := by
      dsimp only [L2.KOf]
      refine' L2.topFn_mk KX G ?a ?l ?c ?k
      (case a => k_is); (case l => k_is); (case c => k_is); (case k => k_is)
    have t__law_draw : L2.TopFn (L2.KOf KX) mg "_law_draw" K65.s__law_draw := by
      dsimp only [L2.KOf]
      refine' L2.topFn_mk KX G ?a ?l ?c ?k
      (case a => k_is); (case l => k_is); (case c => k_is); (case k => k_is)
    have t__law_lowest : L2.TopFn (L2.KOf KX) mg "_law_lowest" K65.s__law_lowest := by
      dsimp only [L2.KOf]
      refine' L2.topFn_mk KX G ?a ?l ?c ?k
      (case a => k_is); (case l => k_is); (case c => k_is); (case k => k_is)
    have t__law_part : L2.TopFn (L2.KOf KX) mg "_law_part" K65.s__law_part := by
      dsimp only [L2.KOf]
      refine' L2.topFn_mk KX G ?a ?l ?c ?k
      (case a => k_is); (case l => k_is); (case c => k_is); (case k => k_is)
    have t__law_sum : L2.TopFn (L2.KOf KX) mg "_law_sum" K65.s__law_sum := by
      dsimp only [L2.KOf]
      refine' L2.topFn_mk KX G ?a ?l ?c ?k
      (case a => k_is); (case l => k_is); (case c => k_is); (case k => k_is)
    have t__law_product : L2.TopFn (L2.KOf KX) mg "_law_product" K65.s__law_product := by
      dsimp only [L2.KOf]
      refine' L2.topFn_mk KX G ?a ?l ?c ?k
      (case a => k_is); (case l => k_is); (case c => k_is); (case k => k_is)
    have t__law_less : L2.TopFn (L2.KOf KX) mg "_law_less" K65.s__law_less := by
      dsimp only [L2.KOf]
      refine' L2.topFn_mk KX G ?a ?l ?c ?k
      (case a => k_is); (case l => k_is); (case c => k_is); (case k => k_is)
    have t__law_inverse : L2.TopFn (L2.KOf KX) mg "_law_inverse" K65.s__law_inverse := by
      dsimp only [L2.KOf]
      refine' L2.topFn_mk KX G ?a ?l ?c ?k
      (case a => k_is); (case l => k_is); (case c => k_is); (case k => k_is)
    have t__law_bent : L2.TopFn (L2.KOf KX) mg "_law_bent" K65.s__law_bent := by
      dsimp only [L2.KOf]
      refine' L2.topFn_mk KX G ?a ?l ?c ?k
      (case a => k_is); (case l => k_is); (case c => k_is); (case k => k_is)
    have t__law_table : L2.TopFn (L2.KOf KX) mg "_law_table" K65.s__law_table := by
      dsimp only [L2.KOf]
      refine' L2.topFn_mk KX G ?a ?l ?c ?k
      (case a => k_is); (case l => k_is); (case c => k_is); (case k => k_is)
    have t__law_name : L2.TopFn (L2.KOf KX) mg "_law_name" K65.s__law_name := by
      dsimp only [L2.KOf]
      refine' L2.topFn_mk KX G ?a ?l ?c ?k
      (case a => k_is); (case l => k_is); (case c => k_is); (case k => k_is)
    have t__law_stock : L2.TopFn (L2.KOf KX) mg "_law_stock" K65.s__law_stock := by
      dsimp only [L2.KOf]
      refine' L2.topFn_mk KX G ?a ?l ?c ?k
      (case a => k_is); (case l => k_is); (case c => k_is); (case k => k_is)
    have t__law_gaps : L2.TopFn (L2.KOf KX) mg "_law_gaps" K65.s__law_gaps := by
      dsimp only [L2.KOf]
      refine' L2.topFn_mk KX G ?a ?l ?c ?k
      (case a => k_is); (case l => k_is); (case c => k_is); (case k => k_is)
    have t__law_choices : L2.TopFn (L2.KOf KX) mg "_law_choices" K65.s__law_choices := by
      dsimp only [L2.KOf]
      refine' L2.topFn_mk KX G ?a ?l ?c ?k
      (case a => k_is); (case l => k_is); (case c => k_is); (case k => k_is)
    have t__law_many : L2.TopFn (L2.KOf KX) mg "_law_many" K65.s__law_many := by
      dsimp only [L2.KOf]
      refine' L2.topFn_mk KX G ?a ?l ?c ?k
      (case a => k_is); (case l => k_is); (case c => k_is); (case k => k_is)
    have t__law_bench : L2.TopFn (L2.KOf KX) mg "_law_bench" K65.s__law_bench := by
      dsimp only [L2.KOf]
      refine' L2.topFn_mk KX G ?a ?l ?c ?k
      (case a => k_is); (case l => k_is); (case c => k_is); (case k => k_is)
    have t__law_brings : L2.TopFn (L2.KOf KX) mg "_law_brings" K65.s__law_brings := by
      dsimp only [L2.KOf]
      refine' L2.topFn_mk KX G ?a ?l ?c ?k
      (case a => k_is); (case l => k_is); (case c => k_is); (case k => k_is)
    have t__law_wish : L2.TopFn (L2.KOf KX) mg "_law_wish" K65.s__law_wish := by
      dsimp only [L2.KOf]
      refine' L2.topFn_mk KX G ?a ?l ?c ?k
      (case a => k_is); (case l => k_is); (case c => k_is); (case k => k_is)
    have t__law_step : L2.TopFn (L2.KOf KX) mg "_law_step" K65.s__law_step := by
      dsimp only [L2.KOf]
      refine' L2.topFn_mk KX G ?a ?l ?c ?k
      (case a => k_is); (case l => k_is); (case c => k_is); (case k => k_is)
    have t_law : L2.TopFn (L2.KOf KX) mg "law" K65.s_law := by
      dsimp only [L2.KOf]
      refine' L2.topFn_mk KX G ?a ?l ?c ?k
      (case a => k_is); (case l => k_is); (case c => k_is); (case k => k_is)
    have z_abs : mg "abs" = none := by
      refine' PySem.W.mg_none_of KX G ?a
      (case a => k_is)
    have z_all : mg "all" = none := by
      refine' PySem.W.mg_none_of KX G ?a
      (case a => k_is)
    have z_bool : mg "bool" = none := by
      refine' PySem.W.mg_none_of KX G ?a
      (case a => k_is)
    have z_dict : mg "dict" = none := by
      refine' PySem.W.mg_none_of KX G ?a
      (case a => k_is)
    have z_enumerate : mg "enumerate" = none := by
      refine' PySem.W.mg_none_of KX G ?a
      (case a => k_is)
    have z_int : mg "int" = none := by
      refine' PySem.W.mg_none_of KX G ?a
      (case a => k_is)
    have z_isinstance : mg "isinstance" = none := by
      refine' PySem.W.mg_none_of KX G ?a
      (case a => k_is)
    have z_len : mg "len" = none := by
      refine' PySem.W.mg_none_of KX G ?a
      (case a => k_is)
    have z_list : mg "list" = none := by
      refine' PySem.W.mg_none_of KX G ?a
      (case a => k_is)
    have z_min : mg "min" = none := by
      refine' PySem.W.mg_none_of KX G ?a
      (case a => k_is)
    have z_range : mg "range" = none := by
      refine' PySem.W.mg_none_of KX G ?a
      (case a => k_is)
    have z_set : mg "set" = none := by
      refine' PySem.W.mg_none_of KX G ?a
      (case a => k_is)
    have z_str : mg "str" = none := by
      refine' PySem.W.mg_none_of KX G ?a
      (case a => k_is)
    have z_tuple : mg "tuple" = none := by
      refine' PySem.W.mg_none_of KX G ?a
      (case a => k_is)
    have X0 : ∃ ad, K65.Exc (L2.KOf KX) mg ad := by
      dsimp only [L2.KOf]
      refine' ⟨_, K65.exc_mk KX G ?m_BenchError ?m_NoNumber ?m_NoTable ?m_NoStock ?m_NoWish ?m_NoBench ?m_Piece ?m_Gap ?m_Glass ?m_Stop ?m_Shop ?m_GAP ?m_GLASS ?m_STOP ?m_MOST_PIECES ?m_LETTERS ?m_MOST_LETTERS ?m_MOST_KINDS ?m_MOST_GAPS ?m_NO_GLASS ?m_TABLE ?m_IMAGE ?m_GROWN ?o_NoWish ?pg_Gap ?hd_Gap ?po_Gap ?sa_Gap ?mk_Gap_init ?a_Gap_init ?fn_Gap_init ?kc_Gap_init ?l_Gap_init ?c_Gap_init ?kp_Gap_init ?a_Gap_bent ?fn_Gap_bent ?kp_Gap_bent ?l_Gap_bent ?c_Gap_bent ?n_Gap_length ?pg_Glass ?hd_Glass ?po_Glass ?sa_Glass ?mk_Glass_init ?a_Glass_init ?fn_Glass_init ?kc_Glass_init ?l_Glass_init ?c_Glass_init ?kp_Glass_init ?a_Glass_bent ?fn_Glass_bent ?kp_Glass_bent ?l_Glass_bent ?c_Glass_bent ?n_Glass_strength ?pg_Stop ?hd_Stop ?po_Stop ?sa_Stop ?mk_Stop_init ?a_Stop_init ?fn_Stop_init ?kc_Stop_init ?l_Stop_init ?c_Stop_init ?kp_Stop_init ?a_Stop_bent ?fn_Stop_bent ?kp_Stop_bent ?l_Stop_bent ?c_Stop_bent ?n_Stop_low ?n_Stop_high ?pg_Shop ?hd_Shop ?po_Shop ?sa_Shop ?mk_Shop_init ?a_Shop_init ?fn_Shop_init ?kc_Shop_init ?l_Shop_init ?c_Shop_init ?kp_Shop_init ?a_Shop_pieces_for ?fn_Shop_pieces_for ?kp_Shop_pieces_for ?l_Shop_pieces_for ?c_Shop_pieces_for ?a_Shop_tables_for ?fn_Shop_tables_for ?kp_Shop_tables_for ?l_Shop_tables_for ?c_Shop_tables_for ?a_Shop_fewest ?fn_Shop_fewest ?kp_Shop_fewest ?l_Shop_fewest ?c_Shop_fewest ?a_Shop_kinds ?fn_Shop_kinds ?kp_Shop_kinds ?l_Shop_kinds ?c_Shop_kinds ?n_Shop_stock ?ob_NoBench_init ?o_cb_NoBench_init ?it_NoBench_init ?kp0_NoBench_init ?hm_NoBench_init ?hd_NoBench_init ?fn_NoBench_init ?sa_NoBench_init ?na_NoBench_init ?rd_NoBench_init ?fc_NoBench_init ?sg_NoBench_init ?l_NoBench_init ?c_NoBench_init ?kp_NoBench_init ?m_NOUGHT ?lk_NOUGHT ?m_ONE ?lk_ONE⟩
      (case m_BenchError => k_is); (case m_NoNumber => k_is); (case m_NoTable => k_is); (case m_NoStock => k_is); (case m_NoWish => k_is); (case m_NoBench => k_is); (case m_Piece => k_is); (case m_Gap => k_is); (case m_Glass => k_is); (case m_Stop => k_is); (case m_Shop => k_is); (case m_GAP => k_is); (case m_GLASS => k_is); (case m_STOP => k_is); (case m_MOST_PIECES => k_is); (case m_LETTERS => k_is); (case m_MOST_LETTERS => k_is); (case m_MOST_KINDS => k_is); (case m_MOST_GAPS => k_is); (case m_NO_GLASS => k_is); (case m_TABLE => k_is); (case m_IMAGE => k_is); (case m_GROWN => k_is); (case o_NoWish => k_exc); (case pg_Gap => k_is); (case hd_Gap => k_is); (case po_Gap => k_is); (case sa_Gap => k_is); (case mk_Gap_init => k_is); (case a_Gap_init => k_is); (case fn_Gap_init => k_is); (case kc_Gap_init => k_is); (case l_Gap_init => k_is); (case c_Gap_init => k_is); (case kp_Gap_init => k_is); (case a_Gap_bent => k_is); (case fn_Gap_bent => k_is); (case kp_Gap_bent => k_is); (case l_Gap_bent => k_is); (case c_Gap_bent => k_is); (case n_Gap_length => k_is); (case pg_Glass => k_is); (case hd_Glass => k_is); (case po_Glass => k_is); (case sa_Glass => k_is); (case mk_Glass_init => k_is); (case a_Glass_init => k_is); (case fn_Glass_init => k_is); (case kc_Glass_init => k_is); (case l_Glass_init => k_is); (case c_Glass_init => k_is); (case kp_Glass_init => k_is); (case a_Glass_bent => k_is); (case fn_Glass_bent => k_is); (case kp_Glass_bent => k_is); (case l_Glass_bent => k_is); (case c_Glass_bent => k_is); (case n_Glass_strength => k_is); (case pg_Stop => k_is); (case hd_Stop => k_is); (case po_Stop => k_is); (case sa_Stop => k_is); (case mk_Stop_init => k_is); (case a_Stop_init => k_is); (case fn_Stop_init => k_is); (case kc_Stop_init => k_is); (case l_Stop_init => k_is); (case c_Stop_init => k_is); (case kp_Stop_init => k_is); (case a_Stop_bent => k_is); (case fn_Stop_bent => k_is); (case kp_Stop_bent => k_is); (case l_Stop_bent => k_is); (case c_Stop_bent => k_is); (case n_Stop_low => k_is); (case n_Stop_high => k_is); (case pg_Shop => k_is); (case hd_Shop => k_is); (case po_Shop => k_is); (case sa_Shop => k_is); (case mk_Shop_init => k_is); (case a_Shop_init => k_is); (case fn_Shop_init => k_is); (case kc_Shop_init => k_is); (case l_Shop_init => k_is); (case c_Shop_init => k_is); (case kp_Shop_init => k_is); (case a_Shop_pieces_for => k_is); (case fn_Shop_pieces_for => k_is); (case kp_Shop_pieces_for => k_is); (case l_Shop_pieces_for => k_is); (case c_Shop_pieces_for => k_is); (case a_Shop_tables_for => k_is); (case fn_Shop_tables_for => k_is); (case kp_Shop_tables_for => k_is); (case l_Shop_tables_for => k_is); (case c_Shop_tables_for => k_is); (case a_Shop_fewest => k_is); (case fn_Shop_fewest => k_is); (case kp_Shop_fewest => k_is); (case l_Shop_fewest => k_is); (case c_Shop_fewest => k_is); (case a_Shop_kinds => k_is); (case fn_Shop_kinds => k_is); (case kp_Shop_kinds => k_is); (case l_Shop_kinds => k_is); (case c_Shop_kinds => k_is); (case n_Shop_stock => k_is); (case ob_NoBench_init => k_is); (case o_cb_NoBench_init => k_exc); (case it_NoBench_init => k_is); (case kp0_NoBench_init => k_is); (case hm_NoBench_init => k_is); (case hd_NoBench_init => k_is); (case fn_NoBench_init => k_is); (case sa_NoBench_init => k_is); (case na_NoBench_init => k_is); (case rd_NoBench_init => k_is); (case fc_NoBench_init => k_is); (case sg_NoBench_init => k_is); (case l_NoBench_init => k_is); (case c_NoBench_init => k_is); (case kp_NoBench_init => k_is); (case m_NOUGHT => k_is); (case lk_NOUGHT => k_is); (case m_ONE => k_is); (case lk_ONE => k_is)
    obtain ⟨ad, X0⟩ := X0
    obtain ⟨fd, FL, bL⟩ := K65.law_fd t_law hmg
    exact ⟨fd, bL, fun base _ _ => L2.FnB.ok (K65.ok_law ⟨X0, z_abs, z_all, z_bool, z_dict, z_enumerate, z_int, z_isinstance, z_len, z_list, z_min, z_range, z_set, z_str, z_tuple, t_is_whole, t_common_divisor, t_is_ratio, t_ratio_of, t_sum_of, t_less_by, t_product_of, t_quotient_of, t_is_less, t_is_piece, t_piece_of, t_look_at, t_is_table, t_look_at_table, t_table_of_rays, t_table_of, t_made_by, t_joined, t_spread_of, t_image_of, t_growth_of, t_is_name, t_is_kind, t_is_stock, t_look_at_gaps, t_is_wish, t_does, t_glasses_in, t__law_cell_at, t__law_source, t__law_draw, t__law_lowest, t__law_part, t__law_sum, t__law_product, t__law_less, t__law_inverse, t__law_bent, t__law_table, t__law_name, t__law_stock, t__law_gaps, t__law_choices, t__law_many, t__law_bench, t__law_brings, t__law_wish, t__law_step⟩ FL)⟩
#print axioms PySem.Challenge.cw_grindbench_k65_whole_wished_images_holds
