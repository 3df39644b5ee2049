import PyProof.Rows.All
import Wide.All
import OpenK.AllK
import Wide.FinOn
import Lean
import PyProof.EqAt
import PyProof.EqKinds
import PyProof.TupleCall
import PySem.Challenge.RW_grindbench_k72_benches_made_of_others
set_option Elab.async false
set_option linter.all false
set_option maxRecDepth 100000
set_option maxHeartbeats 1000000
namespace L2
open PySem PySem.Spec PyProof.Rows
abbrev Key := Sum Int Str
def keyIs : Key → Value → Bool
  | .inl k, v => Value.isInt k v
  | .inr x, v => Value.isStrOf x v
def keyH (w : World) : Key → Int
  | .inl k => hashInt k
  | .inr x => hashStr w x
theorem keyIs_shape : ∀ {k : Key} {v : Value}, keyIs k v = true → (∃ i t, k = Sum.inl i ∧ v = Value.int i t) ∨ (∃ x t, k = Sum.inr x ∧ v = Value.str x t)
  | .inl i, v, h => by
    obtain ⟨t, e⟩ := Value.isInt_shape (k := i) (v := v) h
    exact .inl ⟨i, t, rfl, e⟩
  | .inr x, v, h => by
    obtain ⟨t, e⟩ := Value.isStrOf_shape (x := x) (v := v) h
    exact .inr ⟨x, t, rfl, e⟩
theorem keyIs_int (i : Int) (t : Tok) : keyIs (.inl i) (.int i t) = true := by simp [keyIs, Value.isInt]
theorem keyIs_str (x : Str) (t : Tok) : keyIs (.inr x) (.str x t) = true := by simp [keyIs, Value.isStrOf]
theorem key_ll (a b : Int) : decide ((Sum.inl a : Key) = Sum.inl b) = (a == b) := by
  by_cases e : a = b
  · subst e; simp
  · have h : ¬ (Sum.inl a : Key) = Sum.inl b := fun q => e (Sum.inl.inj q)
    rw [decide_eq_false h]
    exact (beq_eq_false_iff_ne.mpr e).symm
theorem key_rr (a b : Str) : decide ((Sum.inr a : Key) = Sum.inr b) = decide (a = b) := by
  by_cases e : a = b
  · subst e; simp
  · have h : ¬ (Sum.inr a : Key) = Sum.inr b := fun q => e (Sum.inr.inj q)
    rw [decide_eq_false h, decide_eq_false e]
theorem key_lr (a : Int) (b : Str) : decide ((Sum.inl a : Key) = Sum.inr b) = false := decide_eq_false (fun q => nomatch q)
theorem key_rl (a : Str) (b : Int) : decide ((Sum.inr a : Key) = Sum.inl b) = false := decide_eq_false (fun q => nomatch q)
def mixKind (prog : Program) (w : World) : PySem.KeyKind prog w Key where
  is := keyIs
  hash := keyH w
  inj := fun v a b ha hb => by
    rcases keyIs_shape ha with ⟨i, t, rfl, rfl⟩ | ⟨x, t, rfl, rfl⟩
    · rcases keyIs_shape hb with ⟨j, u, rfl, e⟩ | ⟨y, u, rfl, e⟩
      · injection e with e1 _; rw [e1]
      · exact nomatch e
    · rcases keyIs_shape hb with ⟨j, u, rfl, e⟩ | ⟨y, u, rfl, e⟩
      · exact nomatch e
      · injection e with e1 _; rw [e1]
  byValue := fun k v h => by
    rcases keyIs_shape h with ⟨i, t, rfl, rfl⟩ | ⟨x, t, rfl, rfl⟩ <;> rfl
  pyHash := fun hv h => by
    rcases keyIs_shape hv with ⟨i, t, rfl, rfl⟩ | ⟨x, t, rfl, rfl⟩
    · exact wpAny_pyHash_int h
    · exact wpAny_pyHash_str h
  eqBool := fun hu hv h => by
    rcases keyIs_shape hu with ⟨i, t, rfl, rfl⟩ | ⟨x, t, rfl, rfl⟩
    · rcases keyIs_shape hv with ⟨j, u, rfl, rfl⟩ | ⟨y, u, rfl, rfl⟩
      · rw [key_ll] at h; exact wpAny_eqBool_int h
      · rw [key_lr] at h; exact SeqAt.EqAt.int_str i t y u _ _ _ _ h
    · rcases keyIs_shape hv with ⟨j, u, rfl, rfl⟩ | ⟨y, u, rfl, rfl⟩
      · rw [key_rl] at h; exact SeqAt.EqAt.str_int x t j u _ _ _ _ h
      · rw [key_rr] at h; exact wpAny_eqBool_str h
  «strs» := fun k x t v h => by
    rcases keyIs_shape h with ⟨i, u, rfl, e⟩ | ⟨y, u, rfl, e⟩
    · exact nomatch e
    · injection e with e1 _
      subst e1
      cases v <;> rfl
theorem mixKind_int (prog : Program) (w : World) (i : Int) (t : Tok) : (mixKind prog w).is (.inl i) (.int i t) = true := keyIs_int i t
theorem mixKind_str (prog : Program) (w : World) (x : Str) (t : Tok) : (mixKind prog w).is (.inr x) (.str x t) = true := keyIs_str x t
end L2
namespace L2
open PySem PySem.Spec PyProof.Rows
inductive V where
  | non | bl (b : Bool) | int (i : Int) | str (x : Str) | byt (b : Array UInt8) | flt (b : UInt64) | ref (a : Addr) | ty (n : String)
  deriving DecidableEq
def RelV : V → Value → Prop
  | .non, u => u = Value.none
  | .bl b, u => u = Value.bool b
  | .int i, u => ∃ t, u = Value.int i t
  | .str x, u => ∃ t, u = Value.str x t
  | .byt b, u => ∃ t, u = Value.bytes b t
  | .flt b, u => ∃ t, u = Value.float b t
  | .ref a, u => u = Value.ref a
  | .ty n, u => u = Value.type n
abbrev Vals : List V → List Value → Prop := Paired RelV
theorem Vals.length {xs : List V} {us : List Value} (r : Vals xs us) : xs.length = us.length := Paired.length r
theorem Vals.get : ∀ {xs : List V} {us : List Value} {i : Nat} {x : V}, Vals xs us → xs[i]? = some x → ∃ u, us[i]? = some u ∧ RelV x u
  | _, _, _, _, .nil, e => by simp at e
  | _, _, 0, _, .cons r _, e => by simp at e; subst e; exact ⟨_, rfl, r⟩
  | _, _, i + 1, x, .cons _ t, e => by
    obtain ⟨u, h1, h2⟩ := Vals.get (i := i) (x := x) t (by simpa using e)
    exact ⟨u, by simpa using h1, h2⟩
theorem Vals.set {x : V} {u : Value} (r : RelV x u) : ∀ {xs : List V} {us : List Value} (i : Nat), Vals xs us → Vals (xs.set i x) (us.set i u)
  | _, _, _, .nil => .nil
  | _, _, 0, .cons _ t => .cons r t
  | _, _, i + 1, .cons q t => .cons q (Vals.set r i t)
theorem Vals.append : ∀ {xs ys : List V} {us ws : List Value}, Vals xs us → Vals ys ws → Vals (xs ++ ys) (us ++ ws)
  | _, _, _, _, .nil, s => s
  | _, _, _, _, .cons r t, s => .cons r (Vals.append t s)
theorem Vals.take : ∀ {xs : List V} {us : List Value} (n : Nat), Vals xs us → Vals (xs.take n) (us.take n)
  | _, _, 0, _ => .nil
  | _, _, _ + 1, .nil => .nil
  | _, _, n + 1, .cons r t => .cons r (Vals.take n t)
theorem Vals.drop : ∀ {xs : List V} {us : List Value} (n : Nat), Vals xs us → Vals (xs.drop n) (us.drop n)
  | _, _, 0, r => r
  | _, _, _ + 1, .nil => .nil
  | _, _, n + 1, .cons _ t => Vals.drop n t
def RelO : Option V → Option Value → Prop
  | some v, some u => RelV v u
  | none, none => True
  | _, _ => False
def KV {κ : Type} : List (κ × V) → List (κ × Value) → Prop := Paired fun (p : κ × V) (q : κ × Value) => p.1 = q.1 ∧ RelV p.2 q.2
def kV : Key → V
  | .inl i => .int i
  | .inr x => .str x
inductive HO where
  /-- a list -/
  | lst (xs : List V)
  /-- a tuple (never changes) -/
  | tup (xs : List V)
  /-- a dict whose keys are ints and texts; one whose keys are tuples of ints and texts (the empty one is both) -/
  | dK (kvs : List (Key × V)) | dT (kvs : List (List Key × V))
  /-- a set of ints: its members, its size -/
  | set (S : Int → Bool) (n : Nat)
  /-- an instance of the class at C, its dict at dx, its attributes -/
  | ins (C dx : Addr) (fs : List (Str × V))
  /-- the dict of the instance at x -/
  | own (x : Addr)
  /-- the dict of an exception -/
  | xd (fs : List (Str × V))
  /-- a bound method, f of x -/
  | met (f x : Addr)
  /-- a range object lo, lo + 1, .. below hi -/
  | rng (lo hi : Int)
  /-- a thing that is known to the object (the script; a dict while a loop walks it): read, never written while it is so -/
  | frz (o : Obj) (u : HO)
  /-- a code object's table -/
  | tbl (ps : Array Value)
  /-- any other thing, by what is true of its one object (a def of one's own: SetO a S n := HO.ext fun h => ..) -/
  | ext (φ : Heap → Prop)
abbrev Hp := Addr → Option HO
def upd (H : Hp) (a : Addr) (o : HO) : Hp := fun b => if b = a then some o else H b
theorem upd_same {H : Hp} {a : Addr} {o : HO} : upd H a o a = some o := by unfold upd; rw [if_pos rfl]
theorem upd_ne {H : Hp} {a b : Addr} {o : HO} (h : b ≠ a) : upd H a o b = H b := by unfold upd; rw [if_neg h]
theorem upd_upd {H : Hp} {a : Addr} {o u : HO} : upd (upd H a o) a u = upd H a u := by
  funext b; unfold upd; split <;> rfl
theorem ne_of {H : Hp} {a b : Addr} {o u : HO} (h : H a = some o) (h' : H b = some u) (d : o ≠ u) : a ≠ b := by
  intro e; subst e; rw [h] at h'; exact d (Option.some.inj h')
theorem ne_of_none {H : Hp} {a b : Addr} {o : HO} (h : H a = some o) (h' : H b = none) : a ≠ b := by
  intro e; subst e; rw [h] at h'; cases h'
section
variable (P : Program) (w : World)
def ObjOk (H : Hp) (h : Heap) (a : Addr) : HO → Prop
  | .lst xs => xs.length ≤ sizeLine ∧ ∃ (its : List Value) (n : Nat), Vals xs its ∧ h.get? a = some { cls := .type "list", data := .seq its.toArray n }
  | .tup xs => xs.length ≤ sizeLine ∧ ∃ its : List Value, Vals xs its ∧ IsTup h a its.toArray
  | .dK kvs => kvs.length ≤ sizeLine ∧ (a == sysModules) = false ∧ ∃ vs, KV kvs vs ∧ h.DictOf (mixKind P w) a vs
  | .dT kvs => kvs.length ≤ sizeLine ∧ (a == sysModules) = false ∧ ∃ xs : List (List Key × Addr × Value),
      Paired (fun (p : List Key × V) (q : List Key × Addr × Value) => p.1 = q.1 ∧ H q.2.1 = some (.tup (p.1.map kV)) ∧ RelV p.2 q.2.2) kvs xs ∧
      ∃ o es ep, h.get? a = some o ∧ o.ExactDict ∧ o.data = .dict es ep ∧ es.toList = xs.map (entryOfKey (tupleKind (mixKind P w))) ∧ (xs.map (·.1)).Nodup
  | .set S n => h.SetOf (intKind P w) a S n
  | .ins C dx fs => H dx = some (.own a) ∧ fs.length ≤ 1000 ∧ dx ≠ a ∧ h.get? a = some (PySem.W.instObj C dx) ∧
      ∃ mA, h.Ns1 dx mA ∧ (∀ f, RelO (fs.lookup f) (mA f)) ∧ PySem.Within mA (fs.map (·.1))
  | .own _ => ∃ o, h.get? a = some o
  | .xd fs => ∃ mA, h.Ns1 a mA ∧ ∀ f, RelO (fs.lookup f) (mA f)
  | .rng lo hi => ∃ t u v, h.get? a = some { cls := .type "range", data := .fields #[.int lo t, .int hi u, .int 1 v] }
  | .frz o u => h.get? a = some o ∧ ObjOk H h a u
  | .tbl ps => h.get? a = some { cls := .none, data := .fields ps }
  | .met f x => h.get? a = some (PySem.W.methodObj (.ref f) (.ref x))
  | .ext φ => φ h ∧ (∃ o, h.get? a = some o) ∧ ∀ h1 h2 : Heap, φ h1 → (∀ o, h1.get? a = some o → h2.get? a = some o) → φ h2
def HOk (H : Hp) (h : Heap) : Prop := ∀ a o, H a = some o → ObjOk P w H h a o
end
section
variable {P : Program} {w : World} {H H' : Hp} {h h' : Heap} {a : Addr} {o : HO}
theorem ObjOk.lt (x : ObjOk P w H h a o) : a < h.objs.size := by
  cases o with
  | lst xs => obtain ⟨_, _, _, _, e⟩ := x; exact Heap.lt_size e
  | tup xs => obtain ⟨_, _, _, p⟩ := x; exact p.lt
  | dK kvs => obtain ⟨_, _, _, _, o, _, _, e, _⟩ := x; exact Heap.lt_size e
  | dT kvs => obtain ⟨_, _, _, _, o, _, _, e, _⟩ := x; exact Heap.lt_size e
  | set S n => obtain ⟨o, _, _, _, e, _⟩ := x; exact Heap.lt_size e
  | ins C dx fs => obtain ⟨_, _, _, e, _⟩ := x; exact Heap.lt_size e
  | own y => obtain ⟨_, e⟩ := x; exact Heap.lt_size e
  | xd fs => obtain ⟨_, ⟨_, _, _, e, _⟩, _⟩ := x; exact Heap.lt_size e
  | rng lo hi => obtain ⟨_, _, _, e⟩ := x; exact Heap.lt_size e
  | frz ob u => obtain ⟨e, _⟩ := x; exact Heap.lt_size e
  | tbl ps => exact Heap.lt_size (show h.get? a = some _ from x)
  | met f y => exact Heap.lt_size (show h.get? a = some _ from x)
  | ext φ => obtain ⟨_, ⟨_, e⟩, _⟩ := x; exact Heap.lt_size e
theorem Paired.mapP {α β : Type} {F G : α → β → Prop} : ∀ {l₁ : List α} {l₂ : List β}, Paired F l₁ l₂ → (∀ a b, F a b → G a b) → Paired G l₁ l₂
  | _, _, .nil, _ => .nil
  | _, _, .cons r t, f => .cons (f _ _ r) (Paired.mapP t f)
theorem ObjOk.stay (x : ObjOk P w H h a o) (k : ∀ b u, (b = a ∨ H b = some (.own a)) → h.get? b = some u → h'.get? b = some u)
    (ho : ∀ b, H b = some (.own a) → H' b = some (.own a)) (ht : ∀ b xs, H b = some (.tup xs) → H' b = some (.tup xs)) : ObjOk P w H' h' a o := by
  induction o with
  | lst xs => obtain ⟨z, its, n, r, e⟩ := x; exact ⟨z, its, n, r, k _ _ (.inl rfl) e⟩
  | tup xs => obtain ⟨z, its, r, ob, e, c⟩ := x; exact ⟨z, its, r, ob, k _ _ (.inl rfl) e, c⟩
  | dK kvs => obtain ⟨z, y, vs, r, ob, es, ep, e, c⟩ := x; exact ⟨z, y, vs, r, ob, es, ep, k _ _ (.inl rfl) e, c⟩
  | dT kvs =>
    obtain ⟨z, y, xs, r, ob, es, ep, e, c⟩ := x
    exact ⟨z, y, xs, Paired.mapP r fun p q z => ⟨z.1, ht _ _ z.2.1, z.2.2⟩, ob, es, ep, k _ _ (.inl rfl) e, c⟩
  | set S n => obtain ⟨ob, es, ep, t, e, c⟩ := x; exact ⟨ob, es, ep, t, k _ _ (.inl rfl) e, c⟩
  | ins C dx fs =>
    obtain ⟨d, z, ne, e, mA, ⟨od, es, ep, e2, c⟩, r⟩ := x
    exact ⟨ho _ d, z, ne, k _ _ (.inl rfl) e, mA, ⟨od, es, ep, k _ _ (.inr d) e2, c⟩, r⟩
  | own y => obtain ⟨ob, e⟩ := x; exact ⟨ob, k _ _ (.inl rfl) e⟩
  | xd fs => obtain ⟨mA, ⟨od, es, ep, e, c⟩, r⟩ := x; exact ⟨mA, ⟨od, es, ep, k _ _ (.inl rfl) e, c⟩, r⟩
  | rng lo hi => obtain ⟨t, u, v, e⟩ := x; exact ⟨t, u, v, k _ _ (.inl rfl) e⟩
  | frz ob u ih => obtain ⟨e, q⟩ := x; exact ⟨k _ _ (.inl rfl) e, ih q⟩
  | tbl ps =>
    have e : h.get? a = some { cls := .none, data := .fields ps } := x
    show h'.get? a = some { cls := .none, data := .fields ps }
    exact k a _ (.inl rfl) e
  | met f y =>
    have e : h.get? a = some (PySem.W.methodObj (.ref f) (.ref y)) := x
    show h'.get? a = some (PySem.W.methodObj (.ref f) (.ref y))
    exact k a _ (.inl rfl) e
  | ext φ => obtain ⟨p, ⟨o, e⟩, st⟩ := x; exact ⟨st _ _ p fun o q => k _ _ (.inl rfl) q, ⟨o, k _ _ (.inl rfl) e⟩, st⟩
theorem HOk.lt (x : HOk P w H h) (e : H a = some o) : a < h.objs.size := (x a o e).lt
theorem HOk.fresh (x : HOk P w H h) (e : h.objs.size ≤ a) : H a = none := by
  cases q : H a with
  | none => rfl
  | some u => exact absurd (Nat.lt_of_lt_of_le (x.lt q) e) (Nat.lt_irrefl _)
theorem HOk.kept (x : HOk P w H h) (k : ∀ b u, h.get? b = some u → h'.get? b = some u) : HOk P w H h' := fun a o e =>
  (x a o e).stay (fun b u _ q => k b u q) (fun _ q => q) fun _ _ q => q
theorem HOk.laid (x : HOk P w H h) (k : ∀ b u, h.get? b = some u → h'.get? b = some u) (hp : h.objs.size ≤ a) (new : ObjOk P w (upd H a o) h' a o) : HOk P w (upd H a o) h' := fun b u e => by
  have hn := x.fresh hp
  by_cases hb : b = a
  · subst hb; rw [upd_same] at e; cases e; exact new
  · rw [upd_ne hb] at e
    exact (x b u e).stay (fun c v _ q => k c v q) (fun c q => by rw [upd_ne (ne_of_none q hn)]; exact q) fun c xs q => by rw [upd_ne (ne_of_none q hn)]; exact q
end
def Rd (H : Hp) (a : Addr) (u : HO) : Prop := H a = some u ∨ ∃ o, H a = some (.frz o u)
theorem Rd.ok {P : Program} {w : World} {H : Hp} {h : Heap} {a : Addr} {u : HO} (r : Rd H a u) (x : HOk P w H h) : ObjOk P w H h a u := by
  rcases r with r | ⟨o, r⟩
  · exact x a u r
  · obtain ⟨_, q⟩ := x a _ r
    exact q
def Mut : Option HO → Prop
  | some (.lst _) => True
  | some (.dK _) => True
  | some (.dT _) => True
  | some (.set _ _) => True
  | some (.ins _ _ _) => True
  | some (.ext _) => True
  | _ => False
section
variable {P : Program} {w : World} {H : Hp} {h h' : Heap} {x e : Addr} {o' : HO}
theorem HOk.write (ok : HOk P w H h) (mu : Mut (H x)) (he : e = x ∨ H e = some (.own x)) (k : ∀ b u, b ≠ e → h.get? b = some u → h'.get? b = some u) (heo : ∃ u, h'.get? e = some u)
    (new : ObjOk P w (upd H x o') h' x o') : HOk P w (upd H x o') h' := fun b u q => by
  have nown : ∀ c y, H c = some (.own y) → c ≠ x := fun c y r z => by subst z; rw [r] at mu; exact mu
  have ntup : ∀ c xs, H c = some (.tup xs) → c ≠ x := fun c xs r z => by subst z; rw [r] at mu; exact mu
  by_cases hb : b = x
  · subst hb; rw [upd_same] at q; cases q; exact new
  · rw [upd_ne hb] at q
    by_cases hbe : b = e
    · have q' : H b = some (.own x) := by
        rcases he with z | z
        · exact absurd (hbe.trans z) hb
        · rw [hbe]; exact z
      rw [q] at q'; cases q'
      obtain ⟨v, hv⟩ := heo
      exact ⟨v, by rw [hbe]; exact hv⟩
    · refine (ok b u q).stay (fun c v hc r => k c v ?_ r) (fun c r => by rw [upd_ne (nown c b r)]; exact r) fun c xs r => by rw [upd_ne (ntup c xs r)]; exact r
      rcases hc with rfl | hc
      · exact hbe
      · rintro rfl
        rcases he with z | z
        · exact nown c b hc z
        · rw [hc] at z; cases z; exact hb rfl
end
structure Un (fs ex : List Addr) (H H' : Hp) (h h' : Heap) : Prop where
  keep : ∀ b o, h.get? b = some o → H b = none → b ∉ fs → b ∉ ex → h'.get? b = some o
  slot : ∀ b o, h.get? b = some o → H b = none → b ∈ fs → b ∉ ex → ∃ sl, h'.get? b = some { o with slots := sl }
  free : ∀ b o, h.get? b = some o → H b = none → b ∉ ex → H' b = none
  there : ∀ b o, h.get? b = some o → b ∉ ex → ∃ o', h'.get? b = some o'
  tups : ∀ b xs, H b = some (.tup xs) → H' b = some (.tup xs)
  frzs : ∀ b o u, H b = some (.frz o u) → H' b = some (.frz o u)
  tbls : ∀ b ps, H b = some (.tbl ps) → ∃ more, H' b = some (.tbl (ps ++ more))
section
variable {fs fs' ex ex' : List Addr} {H H1 H2 : Hp} {h h1 h2 h' : Heap} {a x e : Addr} {o : HO}
theorem Un.any (u : Un fs ex H H1 h h1) {b : Addr} {ob : Obj} (q : h.get? b = some ob) (n : H b = none) (hx : b ∉ ex) : ∃ sl, h1.get? b = some { ob with slots := sl } := by
  by_cases hb : b ∈ fs
  · exact u.slot b ob q n hb hx
  · exact ⟨ob.slots, u.keep b ob q n hb hx⟩
theorem Un.kept (k : ∀ b u, h.get? b = some u → h'.get? b = some u) : Un fs ex H H h h' :=
  ⟨fun b ob q _ _ _ => k b ob q, fun b ob q _ _ _ => ⟨ob.slots, k b ob q⟩, fun _ _ _ n _ => n, fun b ob q _ => ⟨ob, k b ob q⟩, fun _ _ q => q, fun _ _ _ q => q, fun _ ps q => ⟨#[], by rw [q]; simp⟩⟩
theorem Un.refl : Un fs ex H H h h := Un.kept fun _ _ q => q
theorem Un.laid (k : ∀ b u, h.get? b = some u → h'.get? b = some u) (hp : h.objs.size ≤ a) (hn : H a = none) : Un fs ex H (upd H a o) h h' where
  keep := fun b u q _ _ _ => k b u q
  slot := fun b u q _ _ _ => ⟨u.slots, k b u q⟩
  free := fun b u q n _ => by rw [upd_ne (Nat.ne_of_lt (Nat.lt_of_lt_of_le (Heap.lt_size q) hp))]; exact n
  there := fun b u q _ => ⟨u, k b u q⟩
  tups := fun b xs q => by rw [upd_ne (ne_of_none q hn)]; exact q
  frzs := fun b u xs q => by rw [upd_ne (ne_of_none q hn)]; exact q
  tbls := fun b ps q => ⟨#[], by rw [upd_ne (ne_of_none q hn), q]; simp⟩
theorem Un.write (mu : Mut (H x)) (he : e = x ∨ H e = some (.own x)) (k : ∀ b u, b ≠ e → h.get? b = some u → h'.get? b = some u) (heo : ∃ u, h'.get? e = some u) : Un fs ex H (upd H x o) h h' := by
  have hx : ∀ b, H b = none → b ≠ x := fun b n z => by subst z; rw [n] at mu; exact mu
  have hb : ∀ b, H b = none → b ≠ e := fun b n z => by
    subst z
    rcases he with r | r
    · exact hx b n r
    · rw [n] at r; cases r
  have hm : ∀ b u, H b = some u → ¬ Mut (some u) → b ≠ x := fun b u q nm z => by subst z; rw [q] at mu; exact nm mu
  refine ⟨fun b u q n _ _ => k b u (hb b n) q, fun b u q n _ _ => ⟨u.slots, k b u (hb b n) q⟩, fun b u q n _ => by rw [upd_ne (hx b n)]; exact n, fun b u q _ => ?_,
    fun b xs q => by rw [upd_ne (hm b _ q fun z => z)]; exact q, fun b u xs q => by rw [upd_ne (hm b _ q fun z => z)]; exact q, fun b ps q => ⟨#[], by rw [upd_ne (hm b _ q fun z => z), q]; simp⟩⟩
  by_cases hbe : b = e
  · subst hbe; exact heo
  · exact ⟨u, k b u hbe q⟩
end
def trk (h : Heap) (H : Hp) : List Addr := (List.range h.objs.size).filter fun a => (H a).isSome
def hidT (h : Heap) (H : Hp) : Heap := PySem.W.hideAll h (trk h H)
theorem hidT_size (h : Heap) (H : Hp) : (hidT h H).objs.size = h.objs.size := PySem.W.hideAll_size _ _
theorem hidT_get {h : Heap} {H : Hp} {b : Addr} {o : Obj} (e : h.get? b = some o) (n : H b = none) : (hidT h H).get? b = some o :=
  PySem.W.hideAll_get _ e fun hm => by
    have q : (H b).isSome = true := (List.mem_filter.mp hm).2
    rw [n] at q; simp at q
theorem of_hidT {h : Heap} {H : Hp} {b : Addr} {o : Obj} (e : (hidT h H).get? b = some o) : h.get? b = some o ∧ H b = none := by
  have e' : h.get? b = some o := PySem.W.of_hideAll (trk h H) e
  refine ⟨e', ?_⟩
  cases q : H b with
  | none => rfl
  | some x =>
    have hm : b ∈ trk h H := List.mem_filter.mpr ⟨List.mem_range.mpr (Heap.lt_size e'), by simp [q]⟩
    have z : (hidT h H).get? b = none := PySem.W.hideAll_none (trk h H) hm
    rw [z] at e; cases e
end L2
namespace L2
open PySem PySem.Spec PyProof.Rows
structure Mod (K : PySem.W.Frag) (mg : Str → Option Value) (base : Heap) : Prop where
  kin : K.In base
  glob : base.Ns mainGlobals mg
  blt : ∃ mb, base.Ns builtinsNs mb ∧ ∀ x : Str, x ≠ "__name__" → mb x = bootBuiltins x
  nolimit : base.NoLimit
structure Cx where
  prog : Program
  w : World
  K : PySem.W.Frag
  mg : Str → Option Value
  base : Heap
  A : Around
  N : List Str
  s₀ : Shared
  H₀ : Hp
  env : Env
  outer : List Env
  stack : List Env
  ex : List Addr
  fn : Str → Bool
  calm : Bool
  pn : List (Addr × Obj)
  xe : Value → Shared → Prop
def frs (l : List Env) : List Addr := l.filterMap (·.frame)
abbrev Cx.fs (X : Cx) : List Addr := frs X.outer
def Vis (sc : Scope) (x : Str) : Prop := sc.names.lookup x = some .local ∨ sc.names.lookup x = some .cell ∨ sc.names.lookup x = some .free
def Loc (sc : Scope) (x : Str) : Prop := sc.names.lookup x = some .local ∨ sc.names.lookup x = some .cell
def Look (env : Env) (h : Heap) (m : Str → Option Value) (x : Str) (u : Value) : Prop :=
  (env.kindOf x = some .local ∧ m x = some u) ∨ ((env.kindOf x = some .cell ∨ env.kindOf x = some .free) ∧ ∃ c, env.cells.lookup x = some c ∧ h.IsCell c (some u))
structure Cx.Ok (X : Cx) : Prop where
  mod : Mod X.K X.mg X.base
  kind : X.env.scope.kind = .function
  glob : X.env.globals = mainGlobals
  blt : X.env.builtins = builtinsNs
  above : X.s₀.heap.objs.size ≤ X.env.locals
  inj : ∀ x y c, X.env.cells.lookup x = some c → X.env.cells.lookup y = some c → x = y
  has : ∀ x, (X.env.kindOf x = some .cell ∨ X.env.kindOf x = some .free) → ∃ c, X.env.cells.lookup x = some c
  cab : ∀ x c, X.fn x = true → X.env.cells.lookup x = some c → X.s₀.heap.objs.size ≤ c
  hd : X.calm = true → X.A.handled = none
  frames : X.A.frames = some X.stack
  stk : X.stack = X.outer ∨ (X.stack = X.env :: X.outer ∧ X.env.frame = some X.env.locals)
  exf : ∀ b ∈ X.ex, b ≠ X.env.locals ∧ ∀ x c, X.env.cells.lookup x = some c → c ≠ b
  bs : ∀ b o, X.base.get? b = some o → X.s₀.heap.get? b = some o ∧ X.H₀ b = none
  bsz : X.base.objs.size ≤ X.s₀.heap.objs.size
  noex : ∀ b o, X.base.get? b = some o → b ∉ X.ex
  exfs : ∀ b ∈ X.ex, b ∉ X.fs
  funs : X.s₀.heap.FunFrames X.base X.outer
  frf : ∀ b ∈ X.fs, X.H₀ b = none
structure Inv (X : Cx) (pins : List (Addr × Obj)) (σ : List (Option V)) (H : Hp) (s : Shared) : Prop where
  ok : X.Ok
  os : s.os = X.s₀.os
  bare : AllBare s.gens
  base : Un X.fs X.ex X.H₀ H X.s₀.heap s.heap
  loc : ∃ m, s.heap.Ns X.env.locals m ∧ ∀ (i : Nat) (x : Str) (v : V), X.N[i]? = some x → σ[i]? = some (some v) → Vis X.env.scope x → ∃ u, RelV v u ∧ Look X.env s.heap m x u
  cell : ∀ x c, X.env.cells.lookup x = some c → ∃ v, s.heap.IsCell c v
  free : H X.env.locals = none
  freeC : ∀ x c, X.env.cells.lookup x = some c → H c = none
  pin : ∀ p ∈ X.pn ++ pins, s.heap.get? p.1 = some p.2 ∧ H p.1 = none ∧ p.1 ≠ X.env.locals ∧ p.1 ∉ X.fs ∧ ∀ v, p.2.data ≠ .cell v
  hok : HOk X.prog X.w H s.heap
  len : σ.length = X.N.length
section
variable {X : Cx} {pins : List (Addr × Obj)} {σ : List (Option V)} {H H' : Hp} {s : Shared} {h' : Heap}
theorem Cx.Ok.nofr (ok : X.Ok) {b : Addr} {o : Obj} (e : X.base.get? b = some o) : b ∉ X.fs := fun hb => by
  have := (ok.funs.mem hb).1
  rw [e] at this; cases this
theorem Inv.bs (I : Inv X pins σ H s) : ∀ b o, X.base.get? b = some o → s.heap.get? b = some o ∧ H b = none := fun b o e =>
  ⟨I.base.keep b o (I.ok.bs b o e).1 (I.ok.bs b o e).2 (I.ok.nofr e) (I.ok.noex b o e), I.base.free b o (I.ok.bs b o e).1 (I.ok.bs b o e).2 (I.ok.noex b o e)⟩
theorem Inv.bk (I : Inv X pins σ H s) : ∀ b o, X.base.get? b = some o → s.heap.get? b = some o := fun b o e => (I.bs b o e).1
theorem Inv.mod (I : Inv X pins σ H s) : Mod X.K X.mg X.base := I.ok.mod
theorem Inv.kIn (I : Inv X pins σ H s) : X.K.In s.heap := I.ok.mod.kin.keeps I.bk
theorem Inv.lt (I : Inv X pins σ H s) : X.env.locals < s.heap.objs.size := let ⟨_, hn, _⟩ := I.loc; hn.lt
theorem Inv.sz (I : Inv X pins σ H s) : X.s₀.heap.objs.size ≤ s.heap.objs.size := Nat.le_trans I.ok.above (Nat.le_of_lt I.lt)
theorem Inv.nofs (I : Inv X pins σ H s) {a : Addr} (h : s.heap.objs.size ≤ a) : a ∉ X.fs := fun hb => by
  obtain ⟨_, o, ho, _⟩ := I.ok.funs.mem hb
  exact absurd (Nat.lt_of_lt_of_le (Heap.lt_size ho) (Nat.le_trans I.sz h)) (Nat.lt_irrefl _)
theorem Inv.cne (I : Inv X pins σ H s) : ∀ x c, X.env.cells.lookup x = some c → c ≠ X.env.locals := fun x c e z => by
  obtain ⟨v, o, ho, hd⟩ := I.cell x c e
  obtain ⟨m, ⟨o', es, ep, ho', hd', _⟩, _⟩ := I.loc
  rw [z, ho'] at ho; cases ho; rw [hd'] at hd; cases hd
theorem Inv.funs (I : Inv X pins σ H s) : s.heap.FunFrames X.base X.outer := by
  have all : ∀ (l : List Env), (∀ b ∈ frs l, b ∈ X.fs) → X.s₀.heap.FunFrames X.base l → s.heap.FunFrames X.base l := by
    intro l
    induction l with
    | nil => intro _ _; trivial
    | cons env r ih =>
      intro hs hl
      obtain ⟨hk, ⟨L, o, hf, hn, ho, hd⟩, hr⟩ := hl
      have hL : L ∈ X.fs := hs L (by unfold frs; rw [List.filterMap_cons, hf]; exact List.mem_cons_self)
      obtain ⟨sl, e⟩ := I.base.slot L o ho (I.ok.frf L hL) hL fun z => I.ok.exfs L z hL
      exact ⟨hk, ⟨L, _, hf, hn, e, hd⟩, ih (fun b hb => hs b (by unfold frs; rw [List.filterMap_cons, hf]; exact List.mem_cons_of_mem _ hb)) hr⟩
  exact all X.outer (fun _ hb => hb) I.ok.funs
theorem Inv.stack (I : Inv X pins σ H s) : s.heap.FunFrames X.base X.stack := by
  rcases I.ok.stk with e | ⟨e, hf⟩
  · rw [e]; exact I.funs
  · rw [e]
    obtain ⟨m, hn, _⟩ := I.loc
    refine .cons (by rw [I.ok.kind]; decide) hf hn ?_ I.funs
    exact Heap.get?_none_of_le (Nat.le_trans I.ok.bsz I.ok.above)
theorem Inv.stkSub (I : Inv X pins σ H s) : ∀ b ∈ frs X.stack, b ∈ X.env.locals :: X.fs := fun b hb => by
  rcases I.ok.stk with e | ⟨e, hf⟩
  · rw [e] at hb; exact List.mem_cons_of_mem _ hb
  · rw [e] at hb
    unfold frs at hb
    rw [List.filterMap_cons, hf] at hb
    exact hb
theorem Inv.stkFree (I : Inv X pins σ H s) : ∀ b ∈ frs X.stack, H b = none := fun b hb => by
  rcases List.mem_cons.mp (I.stkSub b hb) with e | hb
  · rw [e]; exact I.free
  · obtain ⟨_, o, ho, _⟩ := I.ok.funs.mem hb
    exact I.base.free b o ho (I.ok.frf b hb) fun z => I.ok.exfs b z hb
theorem Inv.step {g' : Array GenState} {t' : Nat} {d' : Drawn} {ch : List Addr} (I : Inv X pins σ H s)
    (hch : ∀ b ∈ ch, (b ∈ X.ex ∨ X.s₀.heap.objs.size ≤ b) ∧ b ≠ X.env.locals ∧ (∀ x c, X.env.cells.lookup x = some c → c ≠ b) ∧ ∀ p ∈ X.pn ++ pins, p.1 ≠ b)
    (keep : ∀ b o, b ≠ X.env.locals → b ∉ X.fs → b ∉ ch → s.heap.get? b = some o → H b = none → h'.get? b = some o)
    (slot : ∀ b o, b ≠ X.env.locals → b ∈ X.fs → b ∉ ch → s.heap.get? b = some o → H b = none → ∃ sl, h'.get? b = some { o with slots := sl }) (free : ∀ b o, b ∉ ch → s.heap.get? b = some o → H b = none → H' b = none)
    (there : ∀ b o, b ∉ ch → s.heap.get? b = some o → ∃ o', h'.get? b = some o')
    (tups : ∀ b xs, H b = some (.tup xs) → H' b = some (.tup xs)) (frzs : ∀ b o u, H b = some (.frz o u) → H' b = some (.frz o u)) (tbls : ∀ b ps, H b = some (.tbl ps) → ∃ more, H' b = some (.tbl (ps ++ more)))
    (ns : ∀ m, s.heap.Ns X.env.locals m → h'.Ns X.env.locals m) (hok : HOk X.prog X.w H' h') (hg : AllBare g') :
    Inv X pins σ H' { s with heap := h', gens := g', drawn := d', toks := t' } := by
  have neL : ∀ b o, X.s₀.heap.get? b = some o → b ≠ X.env.locals := fun b o e => Nat.ne_of_lt (Nat.lt_of_lt_of_le (Heap.lt_size e) I.ok.above)
  have neC : ∀ b o, X.s₀.heap.get? b = some o → b ∉ X.ex → b ∉ ch := fun b o e hx hb => by
    rcases (hch b hb).1 with z | z
    · exact hx z
    · exact absurd (Nat.lt_of_lt_of_le (Heap.lt_size e) z) (Nat.lt_irrefl _)
  have cellK : ∀ x c, X.env.cells.lookup x = some c → ∀ v, s.heap.IsCell c v → h'.IsCell c v := fun x c e v ⟨o, ho, hd⟩ => by
    have nch : c ∉ ch := fun z => (hch c z).2.2.1 x c e rfl
    by_cases hc : c ∈ X.fs
    · obtain ⟨sl, q⟩ := slot c o (I.cne x c e) hc nch ho (I.freeC x c e)
      exact ⟨_, q, hd⟩
    · exact ⟨o, keep c o (I.cne x c e) hc nch ho (I.freeC x c e), hd⟩
  refine ⟨I.ok, I.os, hg, ⟨fun b o e n hb hx => ?_, fun b o e n hb hx => ?_, fun b o e n hx => ?_, fun b o e hx => ?_, fun b xs e => tups b xs (I.base.tups b xs e), fun b o xs e => frzs b o xs (I.base.frzs b o xs e), fun b ps e => ?_⟩, ?_, fun x c e => ?_, ?_, fun x c e => ?_, fun p hp => ?_, hok, I.len⟩
  · exact keep b o (neL b o e) hb (neC b o e hx) (I.base.keep b o e n hb hx) (I.base.free b o e n hx)
  · obtain ⟨sl, e1⟩ := I.base.slot b o e n hb hx
    obtain ⟨sl', e2⟩ := slot b _ (neL b o e) hb (neC b o e hx) e1 (I.base.free b o e n hx)
    exact ⟨sl', e2⟩
  · obtain ⟨o', e1⟩ := I.base.there b o e hx
    exact free b o' (neC b o e hx) e1 (I.base.free b o e n hx)
  · obtain ⟨o', e1⟩ := I.base.there b o e hx
    exact there b o' (neC b o e hx) e1
  · obtain ⟨m1, e1⟩ := I.base.tbls b ps e
    obtain ⟨m2, e2⟩ := tbls b _ e1
    exact ⟨m1 ++ m2, by rw [e2, Array.append_assoc]⟩
  · obtain ⟨m, hn, hl⟩ := I.loc
    refine ⟨m, ns m hn, fun i x v e1 e2 e3 => ?_⟩
    obtain ⟨u, r, l⟩ := hl i x v e1 e2 e3
    refine ⟨u, r, ?_⟩
    rcases l with l | ⟨k, c, e, z⟩
    · exact .inl l
    · exact .inr ⟨k, c, e, cellK x c e _ z⟩
  · obtain ⟨v, z⟩ := I.cell x c e
    exact ⟨v, cellK x c e v z⟩
  · obtain ⟨m, ⟨o, _, _, ho, _⟩, _⟩ := I.loc
    exact free _ o (fun z => (hch _ z).2.1 rfl) ho I.free
  · obtain ⟨v, o, ho, hd⟩ := I.cell x c e
    exact free c o (fun z => (hch c z).2.2.1 x c e rfl) ho (I.freeC x c e)
  · obtain ⟨e, n, ne, nf, d⟩ := I.pin p hp
    have nch : p.1 ∉ ch := fun z => (hch p.1 z).2.2.2 p hp rfl
    exact ⟨keep p.1 p.2 ne nf nch e n, free p.1 p.2 nch e n, ne, nf, d⟩
theorem Inv.un {t' : Nat} (I : Inv X pins σ H s) (u : Un X.fs [] H H' s.heap h') (hok : HOk X.prog X.w H' h') : Inv X pins σ H' { s with heap := h', toks := t' } := by
  obtain ⟨m, ⟨o, es, ep, ho, r⟩, _⟩ := id I.loc
  obtain ⟨sl, hL⟩ := u.any ho I.free (by simp)
  exact I.step (g' := s.gens) (d' := s.drawn) (ch := []) (fun _ z => nomatch z) (fun b o _ hb _ e n => u.keep b o e n hb (by simp)) (fun b o _ hb _ e n => u.slot b o e n hb (by simp)) (fun b o _ e n => u.free b o e n (by simp)) (fun b o _ e => u.there b o e (by simp)) u.tups u.frzs u.tbls (fun m' hm => by
    obtain ⟨o', es', ep', ho', r'⟩ := hm
    rw [ho] at ho'; cases ho'
    exact ⟨_, es', ep', hL, r'⟩) hok I.bare
theorem Inv.call {g' : Array GenState} {t' : Nat} {d' : Drawn} {ch : List Addr} (I : Inv X pins σ H s) (u : Un (frs X.stack) ch H H' s.heap h') (hok : HOk X.prog X.w H' h') (hg : AllBare g')
    (hch : ∀ b ∈ ch, (b ∈ X.ex ∨ X.s₀.heap.objs.size ≤ b) ∧ b ≠ X.env.locals ∧ (∀ x c, X.env.cells.lookup x = some c → c ≠ b) ∧ ∀ p ∈ X.pn ++ pins, p.1 ≠ b) :
    Inv X pins σ H' { s with heap := h', gens := g', drawn := d', toks := t' } := by
  obtain ⟨m, ⟨o, es, ep, ho, r⟩, _⟩ := id I.loc
  obtain ⟨sl, hL⟩ := u.any ho I.free fun z => (hch _ z).2.1 rfl
  exact I.step (ch := ch) hch (fun b o hL hb hc e n => u.keep b o e n (fun z => (List.mem_cons.mp (I.stkSub b z)).elim hL hb) hc) (fun b o _ _ hc e n => u.any e n hc) (fun b o hc e n => u.free b o e n hc) (fun b o hc e => u.there b o e hc) u.tups u.frzs u.tbls (fun m' hm => by
    obtain ⟨o', es', ep', ho', r'⟩ := hm
    rw [ho] at ho'; cases ho'
    exact ⟨_, es', ep', hL, r'⟩) hok hg
theorem Inv.turned {t' : Nat} {it : Addr} (I : Inv X pins σ H s) (k : ∀ b o, b ≠ it → s.heap.get? b = some o → h'.get? b = some o) (hn : H it = none) (hL : it ≠ X.env.locals)
    (h1 : it ∈ X.ex ∨ X.s₀.heap.objs.size ≤ it) (h2 : ∀ x c, X.env.cells.lookup x = some c → c ≠ it) (h3 : ∀ p ∈ X.pn ++ pins, p.1 ≠ it) : Inv X pins σ H { s with heap := h', toks := t' } := by
  have nit : ∀ b u, H b = some u → b ≠ it := fun b u e z => by rw [z, hn] at e; cases e
  refine I.step (g' := s.gens) (d' := s.drawn) (ch := [it]) (fun b hb => ?_) (fun b o _ _ hc e _ => k b o (fun z => hc (by simp [z])) e) (fun b o _ _ hc e _ => ⟨o.slots, k b o (fun z => hc (by simp [z])) e⟩) (fun _ _ _ _ n => n)
    (fun b o hc e => ⟨o, k b o (fun z => hc (by simp [z])) e⟩) (fun _ _ e => e) (fun _ _ _ e => e) (fun b ps e => ⟨#[], by rw [e]; simp⟩) (fun m hm => ?_) (fun b u e => ?_) I.bare
  · have e : b = it := by simpa using hb
    subst e
    exact ⟨h1, hL, h2, h3⟩
  · obtain ⟨o, es, ep, ho, r⟩ := hm
    exact ⟨o, es, ep, k _ o (Ne.symm hL) ho, r⟩
  · refine (I.hok b u e).stay (fun c v hc q => k c v ?_ q) (fun _ q => q) fun _ _ q => q
    rcases hc with z | z
    · rw [z]; exact nit b u e
    · exact nit c _ z
theorem Inv.tok (I : Inv X pins σ H s) (t : Nat) : Inv X pins σ H { s with toks := t } := I.un (h' := s.heap) (t' := t) Un.refl I.hok
theorem Inv.kept {t' : Nat} (I : Inv X pins σ H s) (k : ∀ b u, s.heap.get? b = some u → h'.get? b = some u) : Inv X pins σ H { s with heap := h', toks := t' } := I.un (Un.kept k) (I.hok.kept k)
theorem Inv.laid {a : Addr} {o : HO} {t' : Nat} (I : Inv X pins σ H s) (k : ∀ b u, s.heap.get? b = some u → h'.get? b = some u) (hp : s.heap.objs.size ≤ a) (new : ObjOk X.prog X.w (upd H a o) h' a o) :
    Inv X pins σ (upd H a o) { s with heap := h', toks := t' } := I.un (Un.laid k hp (I.hok.fresh hp)) (I.hok.laid k hp new)
theorem Inv.write {x e : Addr} {o : HO} {t' : Nat} (I : Inv X pins σ H s) (mu : Mut (H x)) (he : e = x ∨ H e = some (.own x)) (k : ∀ b u, b ≠ e → s.heap.get? b = some u → h'.get? b = some u) (heo : ∃ u, h'.get? e = some u)
    (new : ObjOk X.prog X.w (upd H x o) h' x o) : Inv X pins σ (upd H x o) { s with heap := h', toks := t' } := I.un (Un.write mu he k heo) (I.hok.write mu he k heo new)
theorem Inv.pins_of {pins' : List (Addr × Obj)} (I : Inv X pins σ H s) (h : ∀ p ∈ pins', s.heap.get? p.1 = some p.2 ∧ H p.1 = none ∧ p.1 ≠ X.env.locals ∧ p.1 ∉ X.fs ∧ ∀ v, p.2.data ≠ .cell v) : Inv X pins' σ H s :=
  ⟨I.ok, I.os, I.bare, I.base, I.loc, I.cell, I.free, I.freeC, fun p hp => (List.mem_append.mp hp).elim (fun z => I.pin p (List.mem_append_left _ z)) (h p), I.hok, I.len⟩
theorem nodup_ix {N : List Str} (hN : N.Nodup) {i j : Nat} {x : Str} (a : N[i]? = some x) (b : N[j]? = some x) : i = j := by
  obtain ⟨h1, e1⟩ := List.getElem?_eq_some_iff.mp a
  obtain ⟨h2, e2⟩ := List.getElem?_eq_some_iff.mp b
  exact (List.getElem_inj hN).mp (e1.trans e2.symm)
theorem store_ok2 {M : Model} {A : Around} {E : Value → Shared → Prop} {i : Nat} {x : Str} {v : V} {u : Value} {Q : Unit → Shared → Prop} (I : Inv X pins σ H s) (hN : X.N.Nodup) (hi : X.N[i]? = some x) (hx : Loc X.env.scope x) (r : RelV v u)
    (h : ∀ s', Inv X pins (σ.set i (some v)) H s' → (∃ a, Heap.SameBut a s.heap s'.heap ∧ (a = X.env.locals ∨ X.env.cells.lookup x = some a)) → Q () s') (hf : X.fn x = true ∨ X.env.scope.names.lookup x = some .local := by first | exact .inl rfl | exact .inr rfl | assumption) : wpAny M A (storeName X.env x u) Q E s := by
  obtain ⟨m, hn, hl⟩ := id I.loc
  have hcls : (X.env.scope.kind == .class || (X.env.scope.kind == .module && X.env.locals != X.env.globals)) = false := by rw [I.ok.kind]; rfl
  have hiσ : i < σ.length := by rw [I.len]; exact (List.getElem?_eq_some_iff.mp hi).1
  have cne := I.cne
  have tracked : ∀ {a : Addr} {h' : Heap}, (∃ o, s.heap.get? a = some o ∧ H a = none) → Heap.SameBut a s.heap h' → HOk X.prog X.w H h' := fun {a h'} ha hs b ob e => by
    obtain ⟨_, _, hfree⟩ := ha
    refine (I.hok b ob e).stay (fun c w' hc q => (hs.2 c ?_).trans q) (fun _ q => q) fun _ _ q => q
    rintro rfl
    rcases hc with rfl | hc
    · rw [hfree] at e; cases e
    · rw [hfree] at hc; cases hc
  rcases hx with hk | hk
  · refine wpAny_storeName_local hk hn (fun h' hn' hs => ?_) hcls
    obtain ⟨oL, _, _, hoL, _⟩ := id hn
    refine h _ ⟨I.ok, I.os, I.bare, ⟨fun b o e n hb hx => ?_, fun b o e n hb hx => ?_, I.base.free, fun b o e hx => ?_, I.base.tups, I.base.frzs, I.base.tbls⟩, ⟨_, hn', fun j y v' e1 e2 e3 => ?_⟩, fun y c e => ?_, I.free, I.freeC, fun p hp => ?_, tracked ⟨oL, hoL, I.free⟩ hs, by simpa using I.len⟩ ⟨_, hs, .inl rfl⟩
    · exact (hs.2 b (Nat.ne_of_lt (Nat.lt_of_lt_of_le (Heap.lt_size e) I.ok.above))).trans (I.base.keep b o e n hb hx)
    · obtain ⟨sl, e1⟩ := I.base.slot b o e n hb hx
      exact ⟨sl, (hs.2 b (Nat.ne_of_lt (Nat.lt_of_lt_of_le (Heap.lt_size e) I.ok.above))).trans e1⟩
    · obtain ⟨o', e1⟩ := I.base.there b o e hx
      exact ⟨o', (hs.2 b (Nat.ne_of_lt (Nat.lt_of_lt_of_le (Heap.lt_size e) I.ok.above))).trans e1⟩
    · by_cases hj : j = i
      · subst hj
        rw [hi] at e1; cases e1
        rw [List.getElem?_set_self hiσ] at e2
        cases e2
        exact ⟨u, r, .inl ⟨hk, by simp⟩⟩
      · rw [List.getElem?_set_ne (Ne.symm hj)] at e2
        obtain ⟨u', r', q⟩ := hl j y v' e1 e2 e3
        refine ⟨u', r', ?_⟩
        rcases q with ⟨k, e⟩ | ⟨k, c, e, z⟩
        · refine .inl ⟨k, ?_⟩
          have : y ≠ x := fun e => hj (nodup_ix hN e1 (e ▸ hi))
          simp [this, e]
        · exact .inr ⟨k, c, e, z.sameBut hs (cne y c e)⟩
    · obtain ⟨w', z⟩ := I.cell y c e
      exact ⟨w', z.sameBut hs (cne y c e)⟩
    · obtain ⟨e, n, ne, nf, d⟩ := I.pin p hp
      exact ⟨(hs.2 p.1 ne).trans e, n, ne, nf, d⟩
  · have hfn : X.fn x = true := by
      rcases hf with z | z
      · exact z
      · rw [z] at hk; cases hk
    obtain ⟨c, hc⟩ := I.ok.has x (.inl hk)
    obtain ⟨w', z⟩ := I.cell x c hc
    refine wpAny_storeName_cell I.ok.kind hk hc z (fun h' hc' hs => ?_)
    obtain ⟨oc, hoc, hocd⟩ := id z
    refine h { s with heap := h' } ⟨I.ok, I.os, I.bare, ⟨fun b o e n hb hx => ?_, fun b o e n hb hx => ?_, I.base.free, fun b o e hx => ?_, I.base.tups, I.base.frzs, I.base.tbls⟩, ⟨m, hn.sameBut hs (Ne.symm (cne x c hc)), fun j y v' e1 e2 e3 => ?_⟩, fun y c' e => ?_, I.free, I.freeC, fun p hp => ?_, tracked ⟨oc, hoc, I.freeC x c hc⟩ hs, by simpa using I.len⟩ ⟨c, hs, .inr hc⟩
    · exact (hs.2 b (Nat.ne_of_lt (Nat.lt_of_lt_of_le (Heap.lt_size e) (I.ok.cab x c hfn hc)))).trans (I.base.keep b o e n hb hx)
    · obtain ⟨sl, e1⟩ := I.base.slot b o e n hb hx
      exact ⟨sl, (hs.2 b (Nat.ne_of_lt (Nat.lt_of_lt_of_le (Heap.lt_size e) (I.ok.cab x c hfn hc)))).trans e1⟩
    · obtain ⟨o', e1⟩ := I.base.there b o e hx
      exact ⟨o', (hs.2 b (Nat.ne_of_lt (Nat.lt_of_lt_of_le (Heap.lt_size e) (I.ok.cab x c hfn hc)))).trans e1⟩
    · by_cases hj : j = i
      · subst hj
        rw [hi] at e1; cases e1
        rw [List.getElem?_set_self hiσ] at e2
        cases e2
        exact ⟨u, r, .inr ⟨.inl hk, c, hc, hc'⟩⟩
      · rw [List.getElem?_set_ne (Ne.symm hj)] at e2
        obtain ⟨u', r', q⟩ := hl j y v' e1 e2 e3
        refine ⟨u', r', ?_⟩
        rcases q with q | ⟨k, c', e, z'⟩
        · exact .inl q
        · refine .inr ⟨k, c', e, z'.sameBut hs ?_⟩
          rintro rfl
          exact hj (nodup_ix hN e1 (I.ok.inj _ _ _ e hc ▸ hi))
    · by_cases hcc : c' = c
      · subst hcc; exact ⟨_, hc'⟩
      · obtain ⟨w2, z2⟩ := I.cell y c' e
        exact ⟨w2, z2.sameBut hs hcc⟩
    · obtain ⟨e, n, ne, nf, d⟩ := I.pin p hp
      refine ⟨(hs.2 p.1 ?_).trans e, n, ne, nf, d⟩
      intro q
      rw [q, hoc] at e
      have q' : oc = p.2 := Option.some.inj e
      exact d w' (by rw [← q']; exact hocd)
theorem store_ok {M : Model} {A : Around} {E : Value → Shared → Prop} {i : Nat} {x : Str} {v : V} {u : Value} {Q : Unit → Shared → Prop} (I : Inv X pins σ H s) (hN : X.N.Nodup) (hi : X.N[i]? = some x) (hx : Loc X.env.scope x) (r : RelV v u)
    (h : ∀ s', Inv X pins (σ.set i (some v)) H s' → Q () s') (hf : X.fn x = true ∨ X.env.scope.names.lookup x = some .local := by first | exact .inl rfl | exact .inr rfl | assumption) : wpAny M A (storeName X.env x u) Q E s :=
  store_ok2 I hN hi hx r (fun s' I' _ => h s' I') hf
theorem Inv.call' {s' : Shared} {ch : List Addr} (I : Inv X pins σ H s) (ho : s'.os = s.os) (u : Un (frs X.stack) ch H H' s.heap s'.heap) (hok : HOk X.prog X.w H' s'.heap) (hg : AllBare s'.gens)
    (hch : ∀ b ∈ ch, (b ∈ X.ex ∨ X.s₀.heap.objs.size ≤ b) ∧ b ≠ X.env.locals ∧ (∀ x c, X.env.cells.lookup x = some c → c ≠ b) ∧ ∀ p ∈ X.pn ++ pins, p.1 ≠ b) : Inv X pins σ H' s' := by
  obtain ⟨h', g', d', t', o'⟩ := s'
  have e : o' = s.os := ho
  subst e
  exact I.call (g' := g') (t' := t') (d' := d') u hok hg hch
end
abbrev XK := Value → Option Addr → Hp → Prop
abbrev St := List (Option V)
abbrev VK := V → Hp → Prop
abbrev TE := St → Hp → VK → Prop
abbrev TT := St → Hp → (Bool → Hp → Prop) → Prop
abbrev TA := St → Hp → (List V → Hp → Prop) → Prop
structure Ends where
  nx : St → Hp → Prop
  rt : VK
  bk : St → Hp → Prop := fun _ _ => False
  ct : St → Hp → Prop := fun _ _ => False
abbrev TS := Ends → St → Hp → Prop
def EP (X : Cx) (pins : List (Addr × Obj)) (σ : St) (Q : VK) (u : Value) (s' : Shared) : Prop := ∃ v H', Inv X pins σ H' s' ∧ RelV v u ∧ Q v H'
def TP (X : Cx) (pins : List (Addr × Obj)) (σ : St) (Q : Bool → Hp → Prop) (b : Bool) (s' : Shared) : Prop := ∃ H', Inv X pins σ H' s' ∧ Q b H'
def AP (X : Cx) (pins : List (Addr × Obj)) (σ : St) (Q : List V → Hp → Prop) (us : List Value) (s' : Shared) : Prop := ∃ vs H', Inv X pins σ H' s' ∧ Vals vs us ∧ Q vs H'
def SP (X : Cx) (pins : List (Addr × Obj)) (D : Ends) (f : Flow) (s' : Shared) : Prop :=
  match f with
  | .next => ∃ σ' H', Inv X pins σ' H' s' ∧ D.nx σ' H'
  | .brk => ∃ σ' H', Inv X pins σ' H' s' ∧ D.bk σ' H'
  | .cont => ∃ σ' H', Inv X pins σ' H' s' ∧ D.ct σ' H'
  | .ret u => ∃ v σ' H', Inv X pins σ' H' s' ∧ RelV v u ∧ D.rt v H'
def PE (X : Cx) (e : Expr) (t : TE) : Prop :=
  ∀ (pins : List (Addr × Obj)) (s : Shared) (σ : St) (H : Hp) (Q : VK), Inv X pins σ H s → t σ H Q → wpAny (model X.prog X.w) X.A (eval e X.env) (EP X pins σ Q) X.xe s
def PT (X : Cx) (e : Expr) (t : TT) : Prop :=
  ∀ (pins : List (Addr × Obj)) (s : Shared) (σ : St) (H : Hp) (Q : Bool → Hp → Prop), Inv X pins σ H s → t σ H Q → wpAny (model X.prog X.w) X.A (isTrue e X.env (eval e X.env)) (TP X pins σ Q) X.xe s
def PW (X : Cx) (e : Expr) (t : TT) : Prop :=
  ∀ (whole : Sem Value) (pins : List (Addr × Obj)) (s : Shared) (σ : St) (H : Hp) (Q : Bool → Hp → Prop), Inv X pins σ H s → t σ H Q → wpAny (model X.prog X.w) X.A (isTrue e X.env whole) (TP X pins σ Q) X.xe s
theorem PW.pt {X : Cx} {e : Expr} {t : TT} (h : PW X e t) : PT X e t := h _
def PA (X : Cx) (es : List Expr) (t : TA) : Prop :=
  ∀ (pos : Pos) (pins : List (Addr × Obj)) (s : Shared) (σ : St) (H : Hp) (Q : List V → Hp → Prop), Inv X pins σ H s → t σ H Q → wpAny (model X.prog X.w) X.A (spliced (backTo pos (starEach es X.env))) (AP X pins σ Q) X.xe s
def PS (X : Cx) (st : Stmt) (t : TS) : Prop :=
  ∀ (pins : List (Addr × Obj)) (s : Shared) (σ : St) (H : Hp) (D : Ends), Inv X pins σ H s → t D σ H → wpAny (model X.prog X.w) X.A (exec st X.env) (SP X pins D) X.xe s
def PSs (X : Cx) (st : List Stmt) (t : TS) : Prop :=
  ∀ (pins : List (Addr × Obj)) (s : Shared) (σ : St) (H : Hp) (D : Ends), Inv X pins σ H s → t D σ H → wpAny (model X.prog X.w) X.A (execs st X.env) (SP X pins D) X.xe s
theorem thn {α : Type} {t : Sem α} {Q Q' : α → Shared → Prop} {M : Model} {A : Around} {E : Value → Shared → Prop} {s : Shared} (h : wpAny M A t Q E s) (hQ : ∀ a s, Q a s → Q' a s) : wpAny M A t Q' E s := wpAny_mono h hQ fun _ _ x => x
end L2
namespace L2
open PySem PySem.Spec PyProof.Rows
section
variable {X : Cx}
def tVar (i : Nat) : TE := fun σ H Q => ∃ v, σ[i]? = some (some v) ∧ Q v H
def tC (v : V) : TE := fun _ H Q => Q v H
theorem pe_var {i : Nat} {x : Str} {pos : Pos} (hN : X.N[i]? = some x) (hv : Vis X.env.scope x) (hd : (x == ("__debug__" : Str)) = false := by decide) (hcd : (x == ("__classdict__" : Str)) = false := by decide) : PE X (.Name x pos) (tVar i) := by
  intro pins s σ H Q I h
  obtain ⟨v, e, h⟩ := h
  obtain ⟨m, hn, hl⟩ := I.loc
  obtain ⟨u, r, l⟩ := hl i x v hN e hv
  have fin : EP X pins σ Q u s := ⟨v, H, I, r, h⟩
  rcases l with ⟨hk, hm⟩ | ⟨hk, c, hc, hcell⟩
  · exact wpAny_Name (wpAny_loadName_local I.ok.kind hk hn hm fin) hd
  · rcases hk with hk | hk
    · exact wpAny_Name (wpAny_loadName_cell I.ok.kind hk hc hcell fin) hd
    · exact wpAny_Name (wpAny_loadName_free I.ok.kind hk hc hcell fin hcd) hd
theorem pe_int {i j pos} : PE X (.Constant (.int i) j pos) (tC (.int i)) := fun _ _ _ H _ I h => wpAny_Constant_int ⟨.int i, H, I.tok _, ⟨_, rfl⟩, h⟩
theorem pe_bl {b j pos} : PE X (.Constant (.bool b) j pos) (tC (.bl b)) := fun _ _ _ H _ I h => Constant_bool ⟨.bl b, H, I, rfl, h⟩
theorem pe_non {j pos} : PE X (.Constant .none j pos) (tC .non) := fun _ _ _ H _ I h => Constant_none ⟨.non, H, I, rfl, h⟩
theorem pe_str {x j pos} : PE X (.Constant (.str x) j pos) (tC (.str x)) := fun _ _ _ H _ I h => Calls.Constant_str ⟨.str x, H, I.tok _, ⟨_, rfl⟩, h⟩
def Gl (X : Cx) (x : Str) : Prop := X.env.kindOf x = some .globalImplicit
theorem ld_glob {E : Value → Shared → Prop} {pins : List (Addr × Obj)} {s : Shared} {σ : St} {H : Hp} {x : Str} {u : Value} {pos : Pos} {Q : Value → Shared → Prop} (I : Inv X pins σ H s) (hg : Gl X x) (hm : X.mg x = some u) (h : Q u s)
    (hd : (x == ("__debug__" : Str)) = false := by decide) : wpAny (model X.prog X.w) X.A (eval (.Name x pos) X.env) Q E s :=
  Calls.Name_function_global I.ok.kind hg (Calls.loadGlobal_global (by rw [I.ok.glob]; exact I.mod.glob.keeps I.bk) hm h) hd
theorem ld_blt {E : Value → Shared → Prop} {pins : List (Addr × Obj)} {s : Shared} {σ : St} {H : Hp} {x : Str} {u : Value} {pos : Pos} {Q : Value → Shared → Prop} (I : Inv X pins σ H s) (hg : Gl X x) (hm : X.mg x = none) (hv : bootBuiltins x = some u) (h : Q u s)
    (hn : x ≠ "__name__" := by decide) (hd : (x == ("__debug__" : Str)) = false := by decide) : wpAny (model X.prog X.w) X.A (eval (.Name x pos) X.env) Q E s := by
  obtain ⟨mb, h1, h2⟩ := I.mod.blt
  exact Calls.Name_function_global I.ok.kind hg (Calls.loadGlobal_builtin (by rw [I.ok.glob]; exact I.mod.glob.keeps I.bk) hm (by rw [I.ok.blt]; exact h1.keeps I.bk) ((h2 x hn).trans hv) h) hd
theorem pe_glob {x : Str} {v : V} {u : Value} {pos : Pos} (hg : Gl X x) (hm : X.mg x = some u) (r : RelV v u) (hd : (x == ("__debug__" : Str)) = false := by decide) : PE X (.Name x pos) (tC v) :=
  fun _ _ _ H _ I h => ld_glob I hg hm ⟨v, H, I, r, h⟩ hd
theorem pe_bltn {x : Str} {v : V} {u : Value} {pos : Pos} (hg : Gl X x) (hm : X.mg x = none) (hv : bootBuiltins x = some u) (r : RelV v u) (hn : x ≠ "__name__" := by decide) (hd : (x == ("__debug__" : Str)) = false := by decide) : PE X (.Name x pos) (tC v) :=
  fun _ _ _ H _ I h => ld_blt I hg hm hv ⟨v, H, I, r, h⟩ hn hd
variable {a b : Expr} {ta tb : TE} {pos : Pos}
def PC (X : Cx) (op : CmpOp) (a b : Expr) (t : TE) : Prop :=
  ∀ (pins : List (Addr × Obj)) (s : Shared) (σ : St) (H : Hp) (Q : VK), Inv X pins σ H s → t σ H Q →
    wpAny (model X.prog X.w) X.A (eval a X.env) (fun v s₁ => wpAny (model X.prog X.w) X.A (eval b X.env) (fun u s₂ => wpAny (model X.prog X.w) X.A (compareOp op v u) (EP X pins σ Q) X.xe s₂) X.xe s₁) X.xe s
def tB (t : TE) : TT := fun σ H Q => t σ H fun x H1 => ∃ c, x = .bl c ∧ Q c H1
theorem pt_cmp {op : CmpOp} {t : TE} (h : PC X op a b t) (h1 : behindInMarks op b = false := by first | exact nobehind _ (by decide) (by decide) | rfl) : PT X (.Compare a [op] [b] pos) (tB t) := by
  intro pins s σ H Q I hw
  refine wpAny_isTrue_Compare1 (thn (h pins s σ H _ I hw) fun v s1 h1 => thn h1 fun u s2 h2 => thn h2 fun c s3 ⟨x, H1, I1, r1, q1⟩ => ?_) h1
  obtain ⟨d, rfl, q⟩ := q1
  cases r1
  exact wpAny_truthy_bool ⟨H1, I1, q⟩
theorem pt_val {e : Expr} {t : TE} (h : PE X e t) (he : ∀ whole, isTrue e X.env whole = (do let v ← whole; standAt e.pos; holding [v] (truthy v)) := by intro _; rfl) : PT X e (tB t) := by
  intro pins s σ H Q I hw
  refine isTrue_plain (thn (h pins s σ H _ I hw) fun v s1 ⟨x, H1, I1, r1, q1⟩ => ?_) (he _)
  obtain ⟨d, rfl, q⟩ := q1
  cases r1
  exact wpAny_truthy_bool ⟨H1, I1, q⟩
variable {tA tB' : TT} {rest : List Expr}
def tAnd (t u : TT) : TT := fun σ H Q => t σ H fun c H1 => if c = true then u σ H1 Q else Q false H1
def tOr (t u : TT) : TT := fun σ H Q => t σ H fun c H1 => if c = true then Q true H1 else u σ H1 Q
def tNot (t : TT) : TT := fun σ H Q => t σ H fun c H1 => Q (!c) H1
theorem pw_and1 (ha : PT X a tA) : PW X (.BoolOp .And [a] pos) tA := by
  intro wh pins s σ H Q I h
  refine isTrue_and (thn (ha pins s σ H Q I h) fun c s1 e => ?_)
  cases c with
  | true => exact isTrue_and_nil e
  | false => exact e
theorem pw_or1 (ha : PT X a tA) : PW X (.BoolOp .Or [a] pos) tA := by
  intro wh pins s σ H Q I h
  refine isTrue_or (thn (ha pins s σ H Q I h) fun c s1 e => ?_)
  cases c with
  | false => exact isTrue_or_nil e
  | true => exact e
theorem pw_and (ha : PT X a tA) (hb : PW X (.BoolOp .And (b :: rest) pos) tB') : PW X (.BoolOp .And (a :: b :: rest) pos) (tAnd tA tB') := by
  intro wh pins s σ H Q I h
  refine isTrue_and (thn (ha pins s σ H _ I h) fun c s1 ⟨H1, I1, q1⟩ => ?_)
  cases c with
  | true => exact hb wh pins s1 σ H1 Q I1 q1
  | false => exact ⟨H1, I1, q1⟩
theorem pw_or (ha : PT X a tA) (hb : PW X (.BoolOp .Or (b :: rest) pos) tB') : PW X (.BoolOp .Or (a :: b :: rest) pos) (tOr tA tB') := by
  intro wh pins s σ H Q I h
  refine isTrue_or (thn (ha pins s σ H _ I h) fun c s1 ⟨H1, I1, q1⟩ => ?_)
  cases c with
  | true => exact ⟨H1, I1, q1⟩
  | false => exact hb wh pins s1 σ H1 Q I1 q1
theorem pt_not (ha : PT X a tA) : PT X (.UnaryOp .Not a pos) (tNot tA) := by
  intro pins s σ H Q I h
  exact isTrue_not (ha pins s σ H (fun c H1 => Q (!c) H1) I h)
def tAndV (ta tb : TE) : TE := fun σ H Q => ta σ H fun x H1 => ∃ c, x = .bl c ∧ if c = true then tb σ H1 Q else Q (.bl false) H1
def tNotV (ta : TE) : TE := fun σ H Q => ta σ H fun x H1 => ∃ c, x = .bl c ∧ Q (.bl (!c)) H1
theorem pe_one {op} {t : TE} (h : PE X a t) : PE X (.BoolOp op [a] pos) t := fun pins s σ H Q I hw => BoolOp_one (h pins s σ H Q I hw)
theorem pe_and (ha : PE X a ta) (hb : PE X (.BoolOp .And (b :: rest) pos) tb) : PE X (.BoolOp .And (a :: b :: rest) pos) (tAndV ta tb) := by
  intro pins s σ H Q I h
  refine BoolOp_and (thn (ha pins s σ H _ I h) fun v s1 ⟨x, H1, I1, r1, q1⟩ => ?_)
  obtain ⟨c, rfl, q1⟩ := q1
  cases r1
  refine wpAny_truthy_bool ?_
  cases c with
  | true => exact hb pins s1 σ H1 Q I1 q1
  | false => exact ⟨.bl false, H1, I1, rfl, q1⟩
theorem pe_not (ha : PE X a ta) : PE X (.UnaryOp .Not a pos) (tNotV ta) := by
  intro pins s σ H Q I h
  refine UnaryOp_ (thn (ha pins s σ H _ I h) fun v s1 ⟨x, H1, I1, r1, q1⟩ => ?_)
  obtain ⟨c, rfl, q1⟩ := q1
  cases r1
  exact not_of (wpAny_truthy_bool ⟨.bl (!c), H1, I1, rfl, q1⟩)
def tIf (t : TT) (ta tb : TE) : TE := fun σ H Q => t σ H fun c H1 => if c = true then ta σ H1 Q else tb σ H1 Q
theorem pe_ifExp {c : Expr} (hc : PT X c tA) (ha : PE X a ta) (hb : PE X b tb) : PE X (.IfExp c a b pos) (tIf tA ta tb) := by
  intro pins s σ H Q I h
  refine wpAny_IfExp (thn (hc pins s σ H _ I h) fun d s1 ⟨H1, I1, q1⟩ => ?_)
  cases d with
  | true => exact ha pins s1 σ H1 Q I1 q1
  | false => exact hb pins s1 σ H1 Q I1 q1
end
end L2
namespace L2
open PySem PySem.Spec PyProof.Rows
def SqL (K : PySem.W.Frag) (H : Hp) (a : Addr) (xs : List V) : Prop :=
  Rd H a (.lst xs) ∨
    ∃ (o : Obj) (its : Array Value) (n : Nat), K.lookup a = some o ∧ o.cls = .type "list" ∧ o.dict = none ∧ o.data = .seq its n ∧ its.size ≤ sizeLine ∧ Vals xs its.toList
def SqT (K : PySem.W.Frag) (H : Hp) (a : Addr) (xs : List V) : Prop :=
  Rd H a (.tup xs) ∨
    ∃ (o : Obj) (its : Array Value) (n : Nat), K.lookup a = some o ∧ o.cls = .type "tuple" ∧ o.data = .seq its n ∧ its.size ≤ sizeLine ∧ Vals xs its.toList
def absV : Value → Option V
  | .none => some .non
  | .bool b => some (.bl b)
  | .int i _ => some (.int i)
  | .str x _ => some (.str x)
  | .bytes b _ => some (.byt b)
  | .float b _ => some (.flt b)
  | .ref a => some (.ref a)
  | .type n => some (.ty n)
  | _ => none
theorem RelV.abs {x : V} {u : Value} (r : RelV x u) : absV u = some x := by
  cases x with
  | non => cases r; rfl
  | bl _ => cases r; rfl
  | int _ => obtain ⟨t, rfl⟩ := r; rfl
  | str _ => obtain ⟨t, rfl⟩ := r; rfl
  | byt _ => obtain ⟨t, rfl⟩ := r; rfl
  | flt _ => obtain ⟨t, rfl⟩ := r; rfl
  | ref _ => cases r; rfl
  | ty _ => cases r; rfl
theorem RelV.inj {x y : V} {u : Value} (r : RelV x u) (q : RelV y u) : x = y := Option.some.inj (r.abs.symm.trans q.abs)
theorem Vals.inj : ∀ {xs ys : List V} {us : List Value}, Vals xs us → Vals ys us → xs = ys
  | _, _, _, .nil, .nil => rfl
  | _, _, _, .cons r t, .cons r' t' => by rw [r.inj r', Vals.inj t t']
section
variable {X : Cx} {pins : List (Addr × Obj)} {σ : St} {H : Hp} {s : Shared} {a : Addr} {xs ys : List V}
theorem SqL.of {K : PySem.W.Frag} (h : H a = some (.lst xs)) : SqL K H a xs := .inl (.inl h)
theorem SqT.of {K : PySem.W.Frag} (h : H a = some (.tup xs)) : SqT K H a xs := .inl (.inl h)
theorem Inv.list (I : Inv X pins σ H s) (h : SqL X.K H a xs) : ∃ its : List Value, Vals xs its ∧ PlainL s.heap a its.toArray ∧ xs.length ≤ sizeLine := by
  rcases h with h | ⟨o, its, n, hk, hc, hd, hs, hz, r⟩
  · obtain ⟨z, its, n, r, e⟩ := h.ok I.hok
    exact ⟨its, r, ⟨_, n, e, rfl, rfl, rfl⟩, z⟩
  · refine ⟨its.toList, r, ⟨o, n, I.kIn a o hk, hc, hd, by simpa using hs⟩, ?_⟩
    have e := r.length
    simp only [Array.length_toList] at e
    omega
theorem Inv.tuple (I : Inv X pins σ H s) (h : SqT X.K H a xs) : ∃ its : List Value, Vals xs its ∧ IsTup s.heap a its.toArray ∧ xs.length ≤ sizeLine := by
  rcases h with h | ⟨o, its, n, hk, hc, hs, hz, r⟩
  · obtain ⟨z, its, r, p⟩ := h.ok I.hok
    exact ⟨its, r, p, z⟩
  · refine ⟨its.toList, r, ⟨o, I.kIn a o hk, hc, n, by simpa using hs⟩, ?_⟩
    have e := r.length
    simp only [Array.length_toList] at e
    omega
theorem Inv.list_inj (I : Inv X pins σ H s) (h : SqL X.K H a xs) (h' : SqL X.K H a ys) : xs = ys := by
  obtain ⟨its, r, ⟨o, n, e, _, _, d⟩, _⟩ := I.list h
  obtain ⟨its', r', ⟨o', n', e', _, _, d'⟩, _⟩ := I.list h'
  rw [e] at e'; cases e'
  rw [d] at d'
  injection d' with d1 _
  have : its = its' := by simpa using congrArg Array.toList d1
  subst this
  exact r.inj r'
theorem Inv.tuple_inj (I : Inv X pins σ H s) (h : SqT X.K H a xs) (h' : SqT X.K H a ys) : xs = ys := by
  obtain ⟨its, r, ⟨o, e, _, n, d⟩, _⟩ := I.tuple h
  obtain ⟨its', r', ⟨o', e', _, n', d'⟩, _⟩ := I.tuple h'
  rw [e] at e'; cases e'
  rw [d] at d'
  injection d' with d1 _
  have : its = its' := by simpa using congrArg Array.toList d1
  subst this
  exact r.inj r'
end
abbrev Cx.wish (X : Cx) (E : Value → Shared → Prop) : Cx := { X with xe := E }
abbrev Cx.nox (X : Cx) : Cx := X.wish fun _ _ => False
theorem Cx.Ok.wish {X : Cx} (ok : X.Ok) (E : Value → Shared → Prop) : (X.wish E).Ok :=
  ⟨ok.mod, ok.kind, ok.glob, ok.blt, ok.above, ok.inj, ok.has, ok.cab, ok.hd, ok.frames, ok.stk, ok.exf, ok.bs, ok.bsz, ok.noex, ok.exfs, ok.funs, ok.frf⟩
theorem Cx.Ok.unwish {X : Cx} {E : Value → Shared → Prop} (ok : (X.wish E).Ok) : X.Ok :=
  ⟨ok.mod, ok.kind, ok.glob, ok.blt, ok.above, ok.inj, ok.has, ok.cab, ok.hd, ok.frames, ok.stk, ok.exf, ok.bs, ok.bsz, ok.noex, ok.exfs, ok.funs, ok.frf⟩
section
variable {X : Cx} {pins : List (Addr × Obj)} {σ : St} {H : Hp} {s : Shared} {E : Value → Shared → Prop}
theorem Inv.wish (I : Inv X pins σ H s) (E : Value → Shared → Prop) : Inv (X.wish E) pins σ H s := ⟨I.ok.wish E, I.os, I.bare, I.base, I.loc, I.cell, I.free, I.freeC, I.pin, I.hok, I.len⟩
theorem Inv.unwish (I : Inv (X.wish E) pins σ H s) : Inv X pins σ H s := ⟨I.ok.unwish, I.os, I.bare, I.base, I.loc, I.cell, I.free, I.freeC, I.pin, I.hok, I.len⟩
theorem SP.unwish {D : Ends} {f : Flow} {s' : Shared} (h : SP (X.wish E) pins D f s') : SP X pins D f s' := by
  cases f with
  | next => obtain ⟨σ', H', I, q⟩ := h; exact ⟨σ', H', I.unwish, q⟩
  | brk => obtain ⟨σ', H', I, q⟩ := h; exact ⟨σ', H', I.unwish, q⟩
  | cont => obtain ⟨σ', H', I, q⟩ := h; exact ⟨σ', H', I.unwish, q⟩
  | ret u => obtain ⟨v, σ', H', I, r, q⟩ := h; exact ⟨v, σ', H', I.unwish, r, q⟩
theorem PSs.nox {st : List Stmt} {t : TS} (h : PSs X.nox st t) : PSs X st t := fun pins s σ H D I hw =>
  wpAny_mono (h pins s σ H D (I.wish _) hw) (fun _ _ q => q.unwish) fun _ _ z => False.elim z
end
section
variable {X : Cx} {st : Stmt} {rest : List Stmt} {t u : TS} {e : Expr} {te : TE} {pos : Pos}
def tNext : TS := fun D σ H => D.nx σ H
def tSeq (t u : TS) : TS := fun D σ H => t { D with nx := u D } σ H
theorem pss_nil : PSs X [] tNext := fun _ _ σ H _ I h => wpAny_execs_nil ⟨σ, H, I, h⟩
theorem pss_cons (h1 : PS X st t) (h2 : PSs X rest u) : PSs X (st :: rest) (tSeq t u) := by
  intro pins s σ H D I h
  refine wpAny_execs_cons (thn (h1 pins s σ H { D with nx := u D } I h) fun f s1 q => ?_)
  cases f with
  | next =>
    obtain ⟨σ', H', I', q⟩ := q
    exact h2 pins s1 σ' H' D I' q
  | ret v => exact q
  | brk => exact q
  | cont => exact q
theorem pss_one (h1 : PS X st t) : PSs X [st] t := by
  intro pins s σ H D I h
  refine wpAny_execs_cons (thn (h1 pins s σ H D I h) fun f s1 q => ?_)
  cases f with
  | next => exact wpAny_execs_nil q
  | ret v => exact q
  | brk => exact q
  | cont => exact q
theorem Inv.quiet {pins : List (Addr × Obj)} {σ : St} {H : Hp} {s : Shared} (I : Inv X pins σ H s) : interactive X.env = false := by simp [interactive, I.ok.kind]
def tDrop (te : TE) : TS := fun D σ H => te σ H fun _ H1 => D.nx σ H1
theorem ps_expr (he : PE X e te) (hs : swapsWith e none pos.line X.env = pure false := by rfl) : PS X (.Expr e pos) (tDrop te) := by
  intro pins s σ H D I h
  exact wpAny_Expr_any (thn (he pins s σ H _ I h) fun v s1 ⟨x, H1, I1, r1, q1⟩ => ⟨σ, H1, I1, q1⟩) I.quiet hs
def tRet (te : TE) : TS := fun D σ H => te σ H D.rt
theorem ps_ret (he : PE X e te) : PS X (.Return (some e) pos) (tRet te) := by
  intro pins s σ H D I h
  exact wpAny_Return_some (thn (he pins s σ H _ I h) fun v s1 ⟨x, H1, I1, r1, q1⟩ => ⟨x, σ, H1, I1, r1, q1⟩)
def tIfS (c : TT) (t u : TS) : TS := fun D σ H => c σ H fun b H1 => if b = true then t D σ H1 else u D σ H1
theorem ps_if {c : Expr} {a b : List Stmt} {tc : TT} (hc : PT X c tc) (ha : PSs X a t) (hb : PSs X b u) : PS X (.If c a b pos) (tIfS tc t u) := by
  intro pins s σ H D I h
  refine wpAny_If (thn (hc pins s σ H _ I h) fun d s1 ⟨H1, I1, q1⟩ => ?_)
  cases d with
  | true => exact ha pins s1 σ H1 D I1 q1
  | false => exact hb pins s1 σ H1 D I1 q1
def tNever : TS := fun _ _ _ => False
theorem ps_never : PS X st tNever := fun _ _ _ _ _ _ h => h.elim
end
abbrev TG := V → St → Hp → (St → Hp → Prop) → Prop
abbrev TGs := List V → St → Hp → (St → Hp → Prop) → Prop
def PG (X : Cx) (target : Expr) (t : TG) : Prop :=
  ∀ (pins : List (Addr × Obj)) (s : Shared) (σ : St) (H : Hp) (v : V) (u : Value) (Q : St → Hp → Prop), Inv X pins σ H s → RelV v u → t v σ H Q →
    wpAny (model X.prog X.w) X.A (assign target X.env u) (fun _ s' => ∃ σ' H', Inv X pins σ' H' s' ∧ Q σ' H') X.xe s
def PGs (X : Cx) (ts : List Expr) (t : TGs) : Prop :=
  ∀ (pins : List (Addr × Obj)) (s : Shared) (σ : St) (H : Hp) (vs : List V) (us : List Value) (Q : St → Hp → Prop), Inv X pins σ H s → Vals vs us → t vs σ H Q →
    wpAny (model X.prog X.w) X.A (assignInOrder ((assignEach ts X.env).map (·.2)) us) (fun _ s' => ∃ σ' H', Inv X pins σ' H' s' ∧ Q σ' H') X.xe s
abbrev TSet := V → V → V → Hp → (Hp → Prop) → Prop
def PSet (X : Cx) (t : TSet) : Prop :=
  ∀ (pins : List (Addr × Obj)) (s : Shared) (σ : St) (H : Hp) (o i v : V) (ov iv u : Value) (Q : Hp → Prop), Inv X pins σ H s → RelV o ov → RelV i iv → RelV v u → t o i v H Q →
    wpAny (model X.prog X.w) X.A (setItem ov iv u) (fun _ s' => ∃ H', Inv X pins σ H' s' ∧ Q H') X.xe s
abbrev TIp := V → V → Hp → VK → Prop
def PIp (X : Cx) (op : Operator) (t : TIp) : Prop :=
  ∀ (pins : List (Addr × Obj)) (s : Shared) (σ : St) (H : Hp) (x y : V) (v u : Value) (Q : VK), Inv X pins σ H s → RelV x v → RelV y u → t x y H Q →
    wpAny (model X.prog X.w) X.A (inplaceOp op v u) (EP X pins σ Q) X.xe s
section
variable {X : Cx} {pos : Pos}
def gName (i : Nat) : TG := fun v σ H Q => Q (σ.set i (some v)) H
theorem pg_name {i : Nat} {x : Str} (hN : X.N.Nodup) (hi : X.N[i]? = some x) (hx : Loc X.env.scope x) (hf : X.fn x = true ∨ X.env.scope.names.lookup x = some .local := by first | exact .inl rfl | exact .inr rfl | assumption) : PG X (.Name x pos) (gName i) := by
  intro pins s σ H v u Q I r h
  exact wpAny_assign_Name (store_ok I hN hi hx r (fun s' I' => ⟨_, H, I', h⟩) hf)
def gNil : TGs := fun vs σ H Q => vs = [] ∧ Q σ H
def gCons (t : TG) (u : TGs) : TGs := fun vs σ H Q => ∃ v r, vs = v :: r ∧ t v σ H fun σ' H' => u r σ' H' Q
theorem pgs_nil : PGs X [] gNil := by
  intro pins s σ H vs us Q I r h
  obtain ⟨e, h⟩ := h
  subst e
  cases r
  exact assignInOrder_nil ⟨σ, H, I, h⟩
theorem pgs_cons {e : Expr} {es : List Expr} {t : TG} {u : TGs} (h1 : PG X e t) (h2 : PGs X es u)
    (hs : (assignEach (e :: es) X.env).map (·.2) = assign e X.env :: (assignEach es X.env).map (·.2) := by rfl) : PGs X (e :: es) (gCons t u) := by
  intro pins s σ H vs us Q I r h
  obtain ⟨v, vr, e1, h⟩ := h
  subst e1
  cases r with
  | cons r rr =>
    rw [hs]
    refine assignInOrder_cons (thn (h1 pins s σ H _ _ _ I r h) fun _ s1 ⟨σ1, H1, I1, q1⟩ => ?_)
    exact h2 pins s1 σ1 H1 _ _ Q I1 rr q1
def gTup (K : PySem.W.Frag) (n : Nat) (t : TGs) : TG := fun v σ H Q => ∃ a xs, v = .ref a ∧ SqT K H a xs ∧ xs.length = n ∧ t xs σ H Q
theorem pg_tup {es : List Expr} {k : Nat} {t : TGs} {n : Nat} (hc : X.calm = true) (h : PGs X es t)
    (hn : (assignEach es X.env).length = n := by rfl) (hst : (assignEach es X.env).findIdx? (·.1) = none := by rfl) : PG X (.Tuple es k pos) (gTup X.K n t) := by
  intro pins s σ H v u Q I r hw
  obtain ⟨a, xs, e1, hq, hl, hw⟩ := hw
  subst e1
  cases r
  obtain ⟨its, rv, ht, hz⟩ := I.tuple hq
  refine assign_Tuple_tuple (I.ok.hd hc) ht (by simp [hn, ← hl, rv.length]) hst fun h' hx => ?_
  have I1 : Inv X pins σ H { s with heap := h' } := I.kept (t' := s.toks) fun b o e => hx b o (Nat.ne_of_lt (Heap.lt_size e)) e
  exact h pins _ σ H xs _ Q I1 (by simpa using rv) hw
def gSub (to ti : TE) (t : TSet) : TG := fun v σ H Q => to σ H fun o H1 => ti σ H1 fun i H2 => t o i v H2 fun H3 => Q σ H3
theorem pg_sub {o i : Expr} {to ti : TE} {t : TSet} (ho : PE X o to) (hi : PE X i ti) (hs : PSet X t)
    (ha : ∀ v, assign (.Subscript o i pos) X.env v = (do
      let ov ← holding [v] (eval o X.env)
      let iv ← holding [v, ov] (eval i X.env)
      standAt pos
      holding [v, ov, iv] (setItem ov iv v)
      release [v, ov, iv] []) := by intro _; rfl) : PG X (.Subscript o i pos) (gSub to ti t) := by
  intro pins s σ H v u Q I r h
  rw [ha]
  refine wpAny_bind (wpAny_holding (thn (ho pins s σ H _ I h) fun ov s1 ⟨x, H1, I1, r1, q1⟩ => ?_))
  refine wpAny_bind (wpAny_holding (thn (hi pins s1 σ H1 _ I1 q1) fun iv s2 ⟨y, H2, I2, r2, q2⟩ => ?_))
  refine wpAny_bind (wpAny_standAt (wpAny_bind (wpAny_holding (thn (hs pins s2 σ H2 x y v ov iv u _ I2 r1 r2 r q2) fun _ s3 ⟨H3, I3, q3⟩ => ?_))))
  exact wpAny_release ⟨σ, H3, I3, q3⟩
def tAsg (te : TE) (g : TG) : TS := fun D σ H => te σ H fun x H1 => g x σ H1 D.nx
theorem ps_asg {tg e : Expr} {te : TE} {g : TG} (he : PE X e te) (hg : PG X tg g) (hs : swapsWithSole [tg] e pos.line X.env = pure false := by rfl) (hw : swappedStores [tg] e X.env = pure none := by rfl)
    (h1 : (assignEach [tg] X.env).map (·.2) = [assign tg X.env] := by rfl) : PS X (.Assign [tg] e pos) (tAsg te g) := by
  intro pins s σ H D I h
  refine wpAny_Assign_stores (thn (he pins s σ H _ I h) fun v s1 ⟨x, H1, I1, r1, q1⟩ => ?_) hs hw
  rw [h1]
  exact thn (hg pins s1 σ H1 x v _ I1 r1 q1) fun _ s2 q => q
theorem ps_set {i : Nat} {x : Str} {e : Expr} {te : TE} {pos' : Pos} (hN : X.N.Nodup) (hi : X.N[i]? = some x) (hx : Loc X.env.scope x) (he : PE X e te) (hs : swapsWith e (some (.Name x pos')) pos.line X.env = pure false := by rfl) (hf : X.fn x = true ∨ X.env.scope.names.lookup x = some .local := by first | exact .inl rfl | exact .inr rfl | assumption) :
    PS X (.Assign [.Name x pos'] e pos) (tAsg te (gName i)) := by
  intro pins s σ H D I h
  refine wpAny_Assign_Name (thn (he pins s σ H _ I h) fun v s1 ⟨y, H1, I1, r1, q1⟩ => ?_) hs
  exact store_ok I1 hN hi hx r1 (fun s2 I2 => ⟨_, H1, I2, q1⟩) hf
def tPar (i j : Nat) (ta : TA) : TS := fun D σ H => ta σ H fun vs H1 => ∃ v w, vs = [v, w] ∧ D.nx ((σ.set i (some v)).set j (some w)) H1
theorem ps_par {i j : Nat} {x y : Str} {a b : Expr} {ta : TA} {px py pt : Pos} {kt k2 pt2} (hc : X.calm = true) (hN : X.N.Nodup) (hi : X.N[i]? = some x) (hj : X.N[j]? = some y) (hij : i ≠ j)
    (hx : X.env.scope.names.lookup x = some .local) (hy : X.env.scope.names.lookup y = some .local) (ha : PA X [a, b] ta)
    (hw : swappedStores [.Tuple [.Name x px, .Name y py] kt pt] (.Tuple [a, b] k2 pt2) X.env = pure (some [x, y]))
    (hs : swapsWithSole [.Tuple [.Name x px, .Name y py] kt pt] (.Tuple [a, b] k2 pt2) pos.line X.env = pure false := by rfl) :
    PS X (.Assign [.Tuple [.Name x px, .Name y py] kt pt] (.Tuple [a, b] k2 pt2) pos) (tPar i j ta) := by
  intro pins s σ H D I h
  rw [exec_Assign_arm]
  refine wpAny_bind (wpAny_standAt ?_)
  rw [hs]
  refine wpAny_bind (wpAny_pure ?_)
  rw [if_neg (by decide)]
  refine wpAny_bind (Tuple_ (thn (ha _ pins s σ H _ I h) fun us s1 ⟨vs, H1, I1, r1, q1⟩ => ?_))
  obtain ⟨v, w, e1, q1⟩ := q1
  subst e1
  obtain ⟨u1, u2, rfl, rv, rw'⟩ : ∃ u1 u2, us = [u1, u2] ∧ RelV v u1 ∧ RelV w u2 := by
    cases r1 with
    | cons p q =>
      cases q with
      | cons p' q' =>
        cases q'
        exact ⟨_, _, rfl, p, p'⟩
  refine wpAny_newObj_type ?_ (by show 2 ≤ sizeLine; decide)
  have I2 : Inv X pins σ H1 { s1 with heap := s1.heap.push { cls := .type "tuple", data := .seq [u1, u2].toArray } } := I1.kept (t' := s1.toks) fun b o e => Heap.get?_push_of_some _ e
  rw [hw]
  refine wpAny_bind (wpAny_pure ?_)
  show wpAny (model X.prog X.w) X.A (do rule "assign.swapped-stores"; let items ← unpackItems (.ref s1.heap.objs.size) 2 none; assignInOrder [fun v => bindName X.env y v, fun v => bindName X.env x v] items.reverse; pure Flow.next) _ _ _
  refine wpAny_bind (wpAny_rule (wpAny_bind (unpackItems_tuple (items := #[u1, u2]) (I.ok.hd hc) (IsTup.new s1.heap _) fun h' hx' => ?_)))
  have I3 := I2.kept (h' := h') (t' := s1.toks) fun b o e => hx' b o (Nat.ne_of_lt (Heap.lt_size e)) e
  show wpAny _ _ (assignInOrder [fun v => bindName X.env y v, fun v => bindName X.env x v] [u2, u1] >>= fun _ => pure Flow.next) _ _ _
  refine wpAny_bind (assignInOrder_cons (wpAny_bindName (store_ok I3 hN hj (.inl hy) rw' (fun s2 I4 => ?_) (.inr hy))))
  refine assignInOrder_cons (wpAny_bindName (store_ok I4 hN hi (.inl hx) rv (fun s3 I5 => assignInOrder_nil (wpAny_pure ?_)) (.inr hx)))
  rw [List.set_comm _ _ (Ne.symm hij)] at I5
  exact ⟨_, H1, I5, q1⟩
def tAug (i : Nat) (te : TE) (ti : TIp) : TS := fun D σ H => ∃ x, σ[i]? = some (some x) ∧ te σ H fun y H1 => ti x y H1 fun z H2 => D.nx (σ.set i (some z)) H2
theorem ps_aug {i : Nat} {x : Str} {e : Expr} {te : TE} {op : Operator} {ti : TIp} {pos' : Pos} (hN : X.N.Nodup) (hi : X.N[i]? = some x) (hx : Loc X.env.scope x) (he : PE X e te) (ho : PIp X op ti) (hf : X.fn x = true ∨ X.env.scope.names.lookup x = some .local := by first | exact .inl rfl | exact .inr rfl | assumption) :
    PS X (.AugAssign (.Name x pos') op e pos) (tAug i te ti) := by
  intro pins s σ H D I h
  obtain ⟨v, e1, h⟩ := h
  obtain ⟨m, hn, hl⟩ := I.loc
  have vis : Vis X.env.scope x := by rcases hx with k | k; exact .inl k; exact .inr (.inl k)
  obtain ⟨u, r, l⟩ := hl i x v hi e1 vis
  refine wpAny_AugAssign_Name ?_
  have go : wpAny (model X.prog X.w) X.A (eval e X.env) (fun w s₂ => wpAny (model X.prog X.w) X.A (inplaceOp op u w) (fun r s₃ => wpAny (model X.prog X.w) X.A (storeName X.env x r) (fun _ => SP X pins D .next) X.xe s₃) X.xe s₂) X.xe s := by
    refine thn (he pins s σ H _ I h) fun w s1 ⟨y, H1, I1, r1, q1⟩ => ?_
    refine thn (ho pins s1 σ H1 v y u w _ I1 r r1 q1) fun z s2 ⟨zv, H2, I2, r2, q2⟩ => ?_
    exact store_ok I2 hN hi hx r2 (fun s3 I3 => ⟨_, H2, I3, q2⟩) hf
  rcases l with ⟨hk, hm⟩ | ⟨hk, c, hc, hcell⟩
  · exact wpAny_loadName_local I.ok.kind hk hn hm go
  · rcases hk with hk | hk
    · exact wpAny_loadName_cell I.ok.kind hk hc hcell go
    · rcases hx with k | k
      · have : X.env.scope.names.lookup x = some .free := hk
        rw [k] at this; cases this
      · have : X.env.scope.names.lookup x = some .free := hk
        rw [k] at this; cases this
def ipI (f : Int → Int → Int) : TIp := fun x y H Q => ∃ i j, x = .int i ∧ y = .int j ∧ Q (.int (f i j)) H
theorem ip_add : PIp X .Add (ipI fun i j => i + j) := by
  intro pins s σ H x y v u Q I r1 r2 h
  obtain ⟨i, j, e1, e2, q⟩ := h
  subst e1; subst e2
  obtain ⟨t, rfl⟩ := r1
  obtain ⟨t', rfl⟩ := r2
  exact iadd_int ⟨.int _, H, I.tok _, ⟨_, rfl⟩, q⟩
end
section
variable {X : Cx} {pos : Pos}
def tWhile (c : TT) (tb : TS) : TS := fun D σ H => ∃ W : Nat → St → Hp → Prop, (∃ m, W m σ H) ∧ ∀ m σ H, W m σ H →
  c σ H fun b H1 => if b = true then ∃ N : St → Hp → Prop, (∀ σ' H', N σ' H' → ∃ m', m' < m ∧ W m' σ' H') ∧ tb { D with nx := N, ct := N, bk := D.nx } σ H1 else D.nx σ H1
theorem ps_while {c : Expr} {body : List Stmt} {tc : TT} {tb : TS} (hp : PassesOwn (model X.prog X.w) X.A X.env X.xe) (hc : PT X c tc) (hb : PSs X body tb) : PS X (.While c body [] pos) (tWhile tc tb) := by
  intro pins s σ H D I h
  obtain ⟨W, ⟨m0, w0⟩, turn⟩ := h
  refine wpAny_While (codeAny_whileLoop (fun n s' => ∃ σ' H', Inv X pins σ' H' s' ∧ W n σ' H') ?_ m0 ⟨σ, H, I, w0⟩)
  rintro n s1 ⟨σ1, H1, I1, w1⟩
  refine wpAny_passesOwn hp (thn (hc pins s1 σ1 H1 _ I1 (turn n σ1 H1 w1)) fun b s2 ⟨H2, I2, q2⟩ => ?_)
  cases b with
  | true =>
    obtain ⟨N, hN, q2⟩ := q2
    rw [if_pos rfl]
    refine wpAny_passesOwn hp (thn (hb pins s2 σ1 H2 _ I2 q2) fun f s3 q3 => ?_)
    cases f with
    | next =>
      obtain ⟨σ3, H3, I3, n3⟩ := q3
      obtain ⟨m', hm, w3⟩ := hN σ3 H3 n3
      exact ⟨m', hm, σ3, H3, I3, w3⟩
    | cont =>
      obtain ⟨σ3, H3, I3, n3⟩ := q3
      obtain ⟨m', hm, w3⟩ := hN σ3 H3 n3
      exact ⟨m', hm, σ3, H3, I3, w3⟩
    | brk => exact q3
    | ret v => exact q3
  | false =>
    rw [if_neg Bool.false_ne_true]
    exact wpAny_execs_nil ⟨σ1, H2, I2, q2⟩
end
structure It where
  go : Nat → Hp → Prop
  yld : Nat → Hp → V → Hp → Prop
  stop : Nat → Hp → Prop
def FpOk (X : Cx) (pins : List (Addr × Obj)) (H : Hp) (b : Addr) : Prop :=
  H b = none ∧ b ≠ X.env.locals ∧ b ∉ X.fs ∧ (b ∈ X.ex ∨ X.s₀.heap.objs.size ≤ b) ∧ (∀ x c, X.env.cells.lookup x = some c → c ≠ b) ∧ ∀ p ∈ X.pn ++ pins, p.1 ≠ b
theorem Inv.fpOk {X : Cx} {pins : List (Addr × Obj)} {σ : St} {H H' : Hp} {s : Shared} {b : Addr} (I : Inv X pins σ H s) (hb : s.heap.objs.size ≤ b) (hn : H' b = none) : FpOk X pins H' b := by
  refine ⟨hn, Nat.ne_of_gt (Nat.lt_of_lt_of_le I.lt hb), I.nofs hb, .inr (Nat.le_trans I.sz hb), fun x c e z => ?_, fun p hp z => ?_⟩
  · obtain ⟨v, q⟩ := I.cell x c e
    exact absurd (Nat.lt_of_lt_of_le q.lt (by rw [z]; exact hb)) (Nat.lt_irrefl _)
  · exact absurd (Nat.lt_of_lt_of_le (Heap.lt_size (I.pin p hp).1) (by rw [z]; exact hb)) (Nat.lt_irrefl _)
structure Turn (P : Program) (w : World) (K : PySem.W.Frag) (tg : Expr) (J : It) (fp : List Addr) (it : Addr) (tn : Nat → Heap → Prop) : Prop where
  mem : it ∈ fp
  obj : ∀ i h, tn i h → ∀ b ∈ fp, ∃ o, h.get? b = some o ∧ ∀ v, o.data ≠ .cell v
  keep : ∀ i h h', tn i h → (∀ b ∈ fp, ∀ o, h.get? b = some o → h'.get? b = some o) → tn i h'
  item : ∀ (X : Cx), X.prog = P → X.w = w → X.K = K → X.calm = true → ∀ (i : Nat) (pins : List (Addr × Obj)) (s : Shared) (σ : St) (H : Hp) (E : Value → Shared → Prop), Inv X pins σ H s → (∀ b ∈ fp, FpOk X pins H b) → tn i s.heap → J.go i H →
    wpAny (model P w) X.A (pyNext (.ref it)) (fun r s1 => ∃ u, r = some u ∧
      wpAny (model P w) X.A (letOwnedTupleGo tg (.ref it) u) (fun _ s2 => ∃ x H', Inv X pins σ H' s2 ∧ RelV x u ∧ J.yld i H x H' ∧ tn (i + 1) s2.heap ∧ ∀ b ∈ fp, H' b = none) E s1) E s
  done : ∀ (X : Cx), X.prog = P → X.w = w → X.K = K → X.calm = true → ∀ (i : Nat) (pins : List (Addr × Obj)) (s : Shared) (σ : St) (H : Hp) (E : Value → Shared → Prop), Inv X pins σ H s → (∀ b ∈ fp, FpOk X pins H b) → tn i s.heap → J.stop i H →
    wpAny (model P w) X.A (pyNext (.ref it)) (fun r s1 => r = none ∧ Inv X pins σ H s1) E s
  self : ∀ (A : Around) (i : Nat) (s : Shared) (Q : Value → Shared → Prop) (E : Value → Shared → Prop), tn i s.heap → Q (.ref it) s → wpAny (model P w) A (pyIter (.ref it)) Q E s
abbrev TI := St → Hp → (It → Hp → Prop) → Prop
def PIE (X : Cx) (pins : List (Addr × Obj)) (σ : St) (tg : Expr) (R : It → Hp → Prop) (itv : Value) (s2 : Shared) : Prop :=
  ∃ (it : Addr) (fp : List Addr) (tn : Nat → Heap → Prop) (J : It) (H' : Hp), itv = .ref it ∧ Inv X pins σ H' s2 ∧ Turn X.prog X.w X.K tg J fp it tn ∧ tn 0 s2.heap ∧ (∀ b ∈ fp, FpOk X pins H' b) ∧ R J H'
def PI (X : Cx) (tg iter : Expr) (wi : TI) : Prop :=
  ∀ (pins : List (Addr × Obj)) (s : Shared) (σ : St) (H : Hp) (R : It → Hp → Prop), Inv X pins σ H s → wi σ H R →
    wpAny (model X.prog X.w) X.A (eval iter X.env) (fun v s1 => wpAny (model X.prog X.w) X.A (pyIter v) (PIE X pins σ tg R) X.xe s1) X.xe s
theorem go_of {M : Model} {A : Around} {E : Value → Shared → Prop} {s : Shared} {tg : Expr} {it : Addr} {u : Value} {o : Obj} {n : String} {vs : Array Value} {Q : Unit → Shared → Prop} (ho : s.heap.get? it = some o) (hc : o.cls = .type n) (hd : o.data = .fields vs)
    (hn : ["enumerate", "zip", "dict_itemiterator", "dict_reverseitemiterator", "odict_iterator", "itertools.zip_longest", "itertools.pairwise"].contains n = false) (hQ : Q () s) : wpAny M A (letOwnedTupleGo tg (.ref it) u) Q E s := by
  unfold letOwnedTupleGo
  cases tg <;> first
    | exact wpAny_pure hQ
    | (cases u <;> first
        | exact wpAny_pure hQ
        | (refine wpAny_bind (wpAny_load ho ?_)
           rw [hc, hd]
           show wpAny M A (if (["enumerate", "zip", "dict_itemiterator", "dict_reverseitemiterator", "odict_iterator", "itertools.zip_longest", "itertools.pairwise"].contains n && vs[0]? == some (rawInt _)) = true then _ else _) Q E s
           rw [if_neg (by intro h; rw [hn, Bool.false_and] at h; cases h)]
           exact wpAny_pure hQ))
def Itl (K : PySem.W.Frag) (a : Addr) : It :=
  ⟨fun i H => ∃ xs x, SqL K H a xs ∧ xs[i]? = some x, fun i H x H' => H' = H ∧ ∀ xs, SqL K H a xs → xs[i]? = some x, fun i H => ∃ xs, SqL K H a xs ∧ xs.length ≤ i⟩
def Itt (K : PySem.W.Frag) (a : Addr) : It :=
  ⟨fun i H => ∃ xs x, SqT K H a xs ∧ xs[i]? = some x, fun i H x H' => H' = H ∧ ∀ xs, SqT K H a xs → xs[i]? = some x, fun i H => ∃ xs, SqT K H a xs ∧ xs.length ≤ i⟩
def Itr (lo : Int) (n : Nat) : It := ⟨fun i _ => i < n, fun i H x H' => H' = H ∧ x = .int (lo + i), fun i _ => n ≤ i⟩
theorem turn_list {P : Program} {w : World} {K : PySem.W.Frag} {tg : Expr} (a it : Addr) : Turn P w K tg (Itl K a) [it] it (fun i h => h.IsListIter it a i) where
  mem := by simp
  obj := fun i h st b hb => by
    have e : b = it := by simpa using hb
    subst e
    obtain ⟨o, e, c, d⟩ := st
    exact ⟨o, e, fun v z => by rw [d] at z; cases z⟩
  keep := fun i h h' st k => st.at fun o e => k it (by simp) o e
  item := by
    intro X hP hw hK hc i pins s σ H E I hf st hg
    subst hP hw hK
    obtain ⟨xs, x, hq, hx⟩ := hg
    obtain ⟨its, rv, p, hz⟩ := I.list hq
    obtain ⟨u, hu, ru⟩ := rv.get hx
    obtain ⟨f0, f1, f2, f3, f4, f5⟩ := hf it (by simp)
    refine wpAny_pyNext_list_item st p.isList (x := u) (by simpa using hu) fun h' st' sb => ?_
    have I1 : Inv X pins σ H { s with heap := h' } := I.turned (t' := s.toks) (fun b o hb e => (sb.2 b hb).trans e) f0 f1 f3 f4 f5
    obtain ⟨o, e, c, d⟩ := id st'
    exact ⟨u, rfl, go_of (s := { s with heap := h' }) e c d (by decide) ⟨x, H, I1, ru, ⟨rfl, fun ys hy => by rw [I.list_inj hy hq]; exact hx⟩, st', fun b hb => (hf b hb).1⟩⟩
  done := by
    intro X hP hw hK hc i pins s σ H E I hf st hg
    subst hP hw hK
    obtain ⟨xs, hq, hx⟩ := hg
    obtain ⟨its, rv, p, hz⟩ := I.list hq
    obtain ⟨f0, f1, f2, f3, f4, f5⟩ := hf it (by simp)
    have hl := rv.length
    exact wpAny_pyNext_list_end (I.ok.hd hc) st p.isList (by simp; omega) fun h' eb => ⟨rfl, I.turned (t' := s.toks) (fun b o hb e => eb b o hb e) f0 f1 f3 f4 f5⟩
  self := fun _ _ _ _ _ st h => wpAny_pyIter_listiter st h
theorem turn_tuple {P : Program} {w : World} {K : PySem.W.Frag} {tg : Expr} (a it : Addr) : Turn P w K tg (Itt K a) [it] it (fun i h => h.IsTupleIter it a i) where
  mem := by simp
  obj := fun i h st b hb => by
    have e : b = it := by simpa using hb
    subst e
    obtain ⟨o, e, c, d⟩ := st
    exact ⟨o, e, fun v z => by rw [d] at z; cases z⟩
  keep := fun i h h' st k => st.at fun o e => k it (by simp) o e
  item := by
    intro X hP hw hK hc i pins s σ H E I hf st hg
    subst hP hw hK
    obtain ⟨xs, x, hq, hx⟩ := hg
    obtain ⟨its, rv, p, hz⟩ := I.tuple hq
    obtain ⟨u, hu, ru⟩ := rv.get hx
    obtain ⟨f0, f1, f2, f3, f4, f5⟩ := hf it (by simp)
    refine wpAny_pyNext_tuple_item st (show s.heap.IsTuple a its.toArray from p) (x := u) (by simpa using hu) fun h' st' sb => ?_
    have I1 : Inv X pins σ H { s with heap := h' } := I.turned (t' := s.toks) (fun b o hb e => (sb.2 b hb).trans e) f0 f1 f3 f4 f5
    obtain ⟨o, e, c, d⟩ := id st'
    exact ⟨u, rfl, go_of (s := { s with heap := h' }) e c d (by decide) ⟨x, H, I1, ru, ⟨rfl, fun ys hy => by rw [I.tuple_inj hy hq]; exact hx⟩, st', fun b hb => (hf b hb).1⟩⟩
  done := by
    intro X hP hw hK hc i pins s σ H E I hf st hg
    subst hP hw hK
    obtain ⟨xs, hq, hx⟩ := hg
    obtain ⟨its, rv, p, hz⟩ := I.tuple hq
    obtain ⟨f0, f1, f2, f3, f4, f5⟩ := hf it (by simp)
    have hl := rv.length
    exact wpAny_pyNext_tuple_end (I.ok.hd hc) st (show s.heap.IsTuple a its.toArray from p) (by simp; omega) fun h' eb => ⟨rfl, I.turned (t' := s.toks) (fun b o hb e => eb b o hb e) f0 f1 f3 f4 f5⟩
  self := fun _ _ _ _ _ st h => wpAny_pyIter_tupleiter st h
theorem turn_range {P : Program} {w : World} {K : PySem.W.Frag} {tg : Expr} (it : Addr) (lo : Int) (n : Nat) : Turn P w K tg (Itr lo n) [it] it (fun i h => IsRangeIter h it (lo + (i : Nat) * 1) ((n : Int) - (i : Nat)) 1) where
  mem := by simp
  obj := fun i h st b hb => by
    have e : b = it := by simpa using hb
    subst e
    exact ⟨_, st, fun v z => by
      have z' : Data.fields _ = Data.cell v := z
      cases z'⟩
  keep := fun i h h' st k => k it (by simp) _ st
  item := by
    intro X hP hw hK hc i pins s σ H E I hf st hg
    subst hP hw hK
    obtain ⟨f0, f1, f2, f3, f4, f5⟩ := hf it (by simp)
    have W := Walks.range (prog := X.prog) (w := X.w) (I.ok.hd hc) it lo 1 n
    refine W.item i s _ _ hg st fun v h' tk hv st' kk => ?_
    obtain ⟨t, rfl⟩ := hv
    have I1 : Inv X pins σ H { s with heap := h', toks := tk } := I.turned (fun b o hb e => kk b o (by simpa using hb) e) f0 f1 f3 f4 f5
    refine ⟨_, rfl, go_of (s := { s with heap := h', toks := tk }) (n := "range_iterator") st' rfl rfl (by decide) ⟨.int (lo + i), H, I1, ⟨t, ?_⟩, ⟨rfl, rfl⟩, st', fun b hb => (hf b hb).1⟩⟩
    rw [Int.mul_one]
  done := by
    intro X hP hw hK hc i pins s σ H E I hf st hg
    subst hP hw hK
    obtain ⟨f0, f1, f2, f3, f4, f5⟩ := hf it (by simp)
    exact wpAny_pyNext_range_end (I.ok.hd hc) st (by have : n ≤ i := hg; omega) fun h' eb => ⟨rfl, I.turned (t' := s.toks) (fun b o hb e => eb b o hb e) f0 f1 f3 f4 f5⟩
  self := fun _ _ _ _ _ st h => wpAny_pyIter_rangeiter st h
end L2
namespace L2
open PySem PySem.Spec PyProof.Rows
section
variable {X : Cx} {tg : Expr}
def iList (K : PySem.W.Frag) (tl : TE) : TI := fun σ H R => tl σ H fun x H1 => ∃ a, x = .ref a ∧ (∃ xs, SqL K H1 a xs) ∧ R (Itl K a) H1
def iTup (K : PySem.W.Frag) (tl : TE) : TI := fun σ H R => tl σ H fun x H1 => ∃ a, x = .ref a ∧ (∃ xs, SqT K H1 a xs) ∧ R (Itt K a) H1
theorem pi_list {l : Expr} {tl : TE} (hl : PE X l tl) : PI X tg l (iList X.K tl) := by
  intro pins s σ H R I h
  refine thn (hl pins s σ H _ I h) fun v s1 ⟨x, H1, I1, r1, q1⟩ => ?_
  obtain ⟨a, e, ⟨xs, hq⟩, q⟩ := q1
  subst e
  cases r1
  obtain ⟨its, rv, p, hz⟩ := I1.list hq
  refine wpAny_pyIter_list p.isList ?_
  refine ⟨s1.heap.objs.size, [s1.heap.objs.size], _, _, H1, rfl, I1.kept (t' := s1.toks) fun b o e => Heap.get?_push_of_some _ e, turn_list a _, ⟨_, Heap.get?_push_size _ rfl, rfl, rfl⟩, fun b hb => ?_, q⟩
  have e : b = s1.heap.objs.size := by simpa using hb
  subst e
  exact I1.fpOk (Nat.le_refl _) (I1.hok.fresh (Nat.le_refl _))
theorem pi_tup {l : Expr} {tl : TE} (hl : PE X l tl) : PI X tg l (iTup X.K tl) := by
  intro pins s σ H R I h
  refine thn (hl pins s σ H _ I h) fun v s1 ⟨x, H1, I1, r1, q1⟩ => ?_
  obtain ⟨a, e, ⟨xs, hq⟩, q⟩ := q1
  subst e
  cases r1
  obtain ⟨its, rv, p, hz⟩ := I1.tuple hq
  refine wpAny_pyIter_tuple (show s1.heap.IsTuple a its.toArray from p) ?_
  refine ⟨s1.heap.objs.size, [s1.heap.objs.size], _, _, H1, rfl, I1.kept (t' := s1.toks) fun b o e => Heap.get?_push_of_some _ e, turn_tuple a _, ⟨_, Heap.get?_push_size _ rfl, rfl, rfl⟩, fun b hb => ?_, q⟩
  have e : b = s1.heap.objs.size := by simpa using hb
  subst e
  exact I1.fpOk (Nat.le_refl _) (I1.hok.fresh (Nat.le_refl _))
theorem range_it {pins : List (Addr × Obj)} {σ : St} {H : Hp} {s : Shared} {R : It → Hp → Prop} {E : Value → Shared → Prop} {lo hi : Int} {t u v : Tok} {tk : Nat} (I : Inv X pins σ H s) (h1 : -(2 ^ 62) ≤ lo) (h2 : lo < 2 ^ 62) (h3 : -(2 ^ 62) ≤ hi) (h4 : hi < 2 ^ 62)
    (q : R (Itr lo (hi - lo).toNat) H) : wpAny (model X.prog X.w) X.A (pyIter (.ref s.heap.objs.size)) (PIE X pins σ tg R) E { s with heap := s.heap.push { cls := .type "range", data := .fields #[.int lo t, .int hi u, .int 1 v] }, toks := tk } := by
  refine wpAny_pyIter_range (IsRange.new ..) (small_one h1 h2 h3 h4) ?_
  have I1 : Inv X pins σ H { s with heap := s.heap.push { cls := .type "range", data := .fields #[.int lo t, .int hi u, .int 1 v] }, toks := tk } := I.kept fun b o e => Heap.get?_push_of_some _ e
  refine ⟨(s.heap.push { cls := .type "range", data := .fields #[.int lo t, .int hi u, .int 1 v] }).objs.size, [(s.heap.push { cls := .type "range", data := .fields #[.int lo t, .int hi u, .int 1 v] }).objs.size], _, _, H, rfl,
    I1.kept (t' := tk) fun b o e => Heap.get?_push_of_some _ e, turn_range _ lo (hi - lo).toNat, ?_, fun b hb => ?_, q⟩
  · have e1 : lo + ((0 : Nat) : Int) * 1 = lo := by simp
    have e2 : (((hi - lo).toNat : Nat) : Int) - ((0 : Nat) : Int) = Builtin.Range.rangeSize lo hi 1 := by rw [rangeSize_one]; split <;> omega
    show IsRangeIter _ _ (lo + ((0 : Nat) : Int) * 1) ((((hi - lo).toNat : Nat) : Int) - ((0 : Nat) : Int)) 1
    rw [e1, e2]
    exact Heap.get?_push_size _ rfl
  · have e : b = (s.heap.push { cls := .type "range", data := .fields #[.int lo t, .int hi u, .int 1 v] }).objs.size := by simpa using hb
    subst e
    exact I1.fpOk (Nat.le_refl _) (I1.hok.fresh (Nat.le_refl _))
def iRng1 (ta : TA) : TI := fun σ H R => ta σ H fun vs H1 => ∃ j : Int, vs = [.int j] ∧ -(2 ^ 62) ≤ j ∧ j < 2 ^ 62 ∧ R (Itr 0 j.toNat) H1
theorem pi_range1 {a : Expr} {ta : TA} {p pos : Pos} (hg : Gl X "range") (hm : X.mg "range" = none) (ha : PA X [a] ta) (hs : starEach [a] X.env = [(false, eval a X.env)] := by rfl) : PI X tg (.Call (.Name "range" p) [a] [] pos) (iRng1 ta) := by
  intro pins s σ H R I h
  refine Call_ (ld_blt I hg hm boot_range (PyProof.Rows.callWith_type1 (thn (ha pos pins s σ H _ I h) fun us s1 ⟨vs, H1, I1, r1, q1⟩ => ?_) hs rfl))
  obtain ⟨j, e, q1, q2, q⟩ := q1
  subst e
  cases r1 with
  | cons r rr =>
    cases rr
    obtain ⟨t, rfl⟩ := r
    exact call_range_1 (range_it I1 (by omega) (by omega) q1 q2 (by simpa using q))
def tFor (wi : TI) (g : TG) (tb : TS) : TS := fun D σ H => wi σ H fun J H1 => ∃ W : Nat → Nat → St → Hp → Prop, (∃ m, W 0 m σ H1) ∧ ∀ i m σ H, W i m σ H →
  (J.stop i H ∧ D.nx σ H) ∨ (J.go i H ∧ ∃ N : St → Hp → Prop, (∀ σ' H', N σ' H' → ∃ m', m' < m ∧ W (i + 1) m' σ' H') ∧ ∀ x H', J.yld i H x H' → g x σ H' fun σ2 H2 => tb { D with nx := N, ct := N, bk := D.nx } σ2 H2)
def pinsAt (fp : List Addr) (h : Heap) : List (Addr × Obj) := fp.filterMap fun b => (h.get? b).map fun o => (b, o)
theorem mem_pinsAt {fp : List Addr} {h : Heap} {b : Addr} {o : Obj} (hb : b ∈ fp) (e : h.get? b = some o) : (b, o) ∈ pinsAt fp h := List.mem_filterMap.mpr ⟨b, hb, by rw [e]; rfl⟩
theorem of_pinsAt {fp : List Addr} {h : Heap} {p : Addr × Obj} (hp : p ∈ pinsAt fp h) : p.1 ∈ fp ∧ h.get? p.1 = some p.2 := by
  obtain ⟨b, hb, e⟩ := List.mem_filterMap.mp hp
  cases q : h.get? b with
  | none => rw [q] at e; cases e
  | some o =>
    rw [q] at e
    have e' : (b, o) = p := Option.some.inj e
    subst e'
    exact ⟨hb, q⟩
theorem Inv.pinned {pins : List (Addr × Obj)} {σ : St} {H : Hp} {s : Shared} {fp : List Addr} (I : Inv X pins σ H s) (hf : ∀ b ∈ fp, FpOk X pins H b) (ho : ∀ b ∈ fp, ∃ o, s.heap.get? b = some o ∧ ∀ v, o.data ≠ .cell v) : Inv X (pins ++ pinsAt fp s.heap) σ H s :=
  I.pins_of fun p hp => (List.mem_append.mp hp).elim (fun z => I.pin p (List.mem_append_right _ z)) fun z => by
    obtain ⟨hb, e⟩ := of_pinsAt z
    obtain ⟨f0, f1, f2, _⟩ := hf p.1 hb
    obtain ⟨o, e', d⟩ := ho p.1 hb
    rw [e] at e'; cases e'
    exact ⟨e, f0, f1, f2, d⟩
theorem Inv.unpinned {pins pl : List (Addr × Obj)} {σ : St} {H : Hp} {s : Shared} (I : Inv X (pins ++ pl) σ H s) : Inv X pins σ H s := I.pins_of fun p hp => I.pin p (List.mem_append_right _ (List.mem_append_left _ hp))
theorem ps_for {iter : Expr} {body : List Stmt} {wi : TI} {g : TG} {tb : TS} {pos : Pos} (hp : PassesOwn (model X.prog X.w) X.A X.env X.xe) (hc : X.calm = true) (hi : PI X tg iter wi) (hg : PG X tg g) (hb : PSs X body tb)
    (hs : ∀ x, foldedSetIterable iter X.env x = pure x := by intro _; rfl) : PS X (.For tg iter body [] pos) (tFor wi g tb) := by
  intro pins s σ H D I h
  refine wpAny_For (thn (hi pins s σ H _ I h) fun v s1 h1 => thn h1 fun itv s2 h2 => ?_) hs
  obtain ⟨it, fp, tn, J, H2, e, I2, T, st2, f2, W, ⟨m0, w0⟩, turn⟩ := h2
  subst e
  -- what stays true of the iterator's objects through the loop
  have stat : ∀ {H' : Hp}, (∀ b ∈ fp, H' b = none) → ∀ b ∈ fp, FpOk X pins H' b := fun hn b hb => ⟨hn b hb, (f2 b hb).2⟩
  refine codeAny_forLoop_any (fun n s' => ∃ i σ' H', Inv X pins σ' H' s' ∧ tn i s'.heap ∧ (∀ b ∈ fp, H' b = none) ∧ W i n σ' H') ?_ m0 ⟨0, σ, H2, I2, st2, fun b hb => (f2 b hb).1, w0⟩
  rintro n s3 ⟨i, σ3, H3, I3, st3, fr3, w3⟩
  rcases turn i n σ3 H3 w3 with ⟨stop, qn⟩ | ⟨go, N, hN, step⟩
  · refine wpAny_passesOwn hp (thn (T.done X rfl rfl rfl hc i pins s3 σ3 H3 X.xe I3 (stat fr3) st3 stop) fun r s4 ⟨hr, I4⟩ => ?_)
    subst hr
    exact wpAny_execs_nil ⟨σ3, H3, I4, qn⟩
  · refine wpAny_passesOwn hp (thn (T.item X rfl rfl rfl hc i pins s3 σ3 H3 X.xe I3 (stat fr3) st3 go) fun r s4 ⟨u, hr, h4⟩ => ?_)
    subst hr
    refine wpAny_passesOwn hp (thn h4 fun _ s5 ⟨x, H5, I5, r5, y5, st5, fr5⟩ => ?_)
    have I5' := I5.pinned (stat fr5) (T.obj _ _ st5)
    refine wpAny_passesOwn hp (thn (hg _ s5 σ3 H5 x u _ I5' r5 (step x H5 y5)) fun _ s6 ⟨σ6, H6, I6, q6⟩ => ?_)
    refine wpAny_passesOwn hp (thn (hb _ s6 σ6 H6 _ I6 q6) fun f s7 q7 => ?_)
    have again : ∀ {σ7 : St} {H7 : Hp}, Inv X (pins ++ pinsAt fp s5.heap) σ7 H7 s7 → N σ7 H7 → ∃ m, m < n ∧ ∃ i σ' H', Inv X pins σ' H' s7 ∧ tn i s7.heap ∧ (∀ b ∈ fp, H' b = none) ∧ W i m σ' H' := fun {σ7 H7} I7 n7 => by
      obtain ⟨m', hm, w7⟩ := hN σ7 H7 n7
      refine ⟨m', hm, i + 1, σ7, H7, I7.unpinned, T.keep _ _ _ st5 fun b hb o e => (I7.pin (b, o) (List.mem_append_right _ (List.mem_append_right _ (mem_pinsAt hb e)))).1, fun b hb => ?_, w7⟩
      obtain ⟨o, e, d⟩ := T.obj _ _ st5 b hb
      exact (I7.pin (b, o) (List.mem_append_right _ (List.mem_append_right _ (mem_pinsAt hb e)))).2.1
    cases f with
    | next => obtain ⟨σ7, H7, I7, n7⟩ := q7; exact again I7 n7
    | cont => obtain ⟨σ7, H7, I7, n7⟩ := q7; exact again I7 n7
    | brk => obtain ⟨σ7, H7, I7, q7⟩ := q7; exact ⟨σ7, H7, I7.unpinned, q7⟩
    | ret v => obtain ⟨x7, σ7, H7, I7, r7, q7⟩ := q7; exact ⟨x7, σ7, H7, I7.unpinned, r7, q7⟩
end
theorem for_list {K : PySem.W.Frag} {a : Addr} {xs : List V} {g : TG} {tb : TS} {D : Ends} {σ : St} {H : Hp} (Pv : Nat → St → Hp → Prop) (h0 : Pv 0 σ H) (hl : ∀ i σ H, i ≤ xs.length → Pv i σ H → SqL K H a xs)
    (hs : ∀ i x σ H, xs[i]? = some x → Pv i σ H → g x σ H fun σ2 H2 => tb { D with nx := Pv (i + 1), ct := Pv (i + 1), bk := D.nx } σ2 H2) (hd : ∀ σ H, Pv xs.length σ H → D.nx σ H) :
    ∃ W : Nat → Nat → St → Hp → Prop, (∃ m, W 0 m σ H) ∧ ∀ i m σ H, W i m σ H →
      ((Itl K a).stop i H ∧ D.nx σ H) ∨ ((Itl K a).go i H ∧ ∃ N : St → Hp → Prop, (∀ σ' H', N σ' H' → ∃ m', m' < m ∧ W (i + 1) m' σ' H') ∧ ∀ x H', (Itl K a).yld i H x H' → g x σ H' fun σ2 H2 => tb { D with nx := N, ct := N, bk := D.nx } σ2 H2) := by
  refine ⟨fun i m σ H => m = xs.length - i ∧ i ≤ xs.length ∧ Pv i σ H, ⟨xs.length, by simp, Nat.zero_le _, h0⟩, ?_⟩
  rintro i m σ H ⟨rfl, hi, p⟩
  have q := hl i σ H hi p
  by_cases hlt : i < xs.length
  · refine .inr ⟨⟨xs, xs[i], q, by simp [hlt]⟩, Pv (i + 1), fun σ' H' p' => ⟨xs.length - (i + 1), by omega, rfl, hlt, p'⟩, fun x H' y => ?_⟩
    obtain ⟨e, y⟩ := y
    subst e
    exact hs i x σ _ (y xs q) p
  · have e : i = xs.length := by omega
    subst e
    exact .inl ⟨⟨xs, q, Nat.le_refl _⟩, hd σ H p⟩
theorem for_range {lo : Int} {n : Nat} {g : TG} {tb : TS} {D : Ends} {σ : St} {H : Hp} (Pv : Nat → St → Hp → Prop) (h0 : Pv 0 σ H)
    (hs : ∀ i σ H, i < n → Pv i σ H → g (.int (lo + i)) σ H fun σ2 H2 => tb { D with nx := Pv (i + 1), ct := Pv (i + 1), bk := D.nx } σ2 H2) (hd : ∀ σ H, Pv n σ H → D.nx σ H) :
    ∃ W : Nat → Nat → St → Hp → Prop, (∃ m, W 0 m σ H) ∧ ∀ i m σ H, W i m σ H →
      ((Itr lo n).stop i H ∧ D.nx σ H) ∨ ((Itr lo n).go i H ∧ ∃ N : St → Hp → Prop, (∀ σ' H', N σ' H' → ∃ m', m' < m ∧ W (i + 1) m' σ' H') ∧ ∀ x H', (Itr lo n).yld i H x H' → g x σ H' fun σ2 H2 => tb { D with nx := N, ct := N, bk := D.nx } σ2 H2) := by
  refine ⟨fun i m σ H => m = n - i ∧ i ≤ n ∧ Pv i σ H, ⟨n, by simp, Nat.zero_le _, h0⟩, ?_⟩
  rintro i m σ H ⟨rfl, hi, p⟩
  by_cases hlt : i < n
  · refine .inr ⟨hlt, Pv (i + 1), fun σ' H' p' => ⟨n - (i + 1), by omega, rfl, hlt, p'⟩, fun x H' y => ?_⟩
    obtain ⟨e, y⟩ := y
    subst e y
    exact hs i σ _ hlt p
  · have e : i = n := by omega
    subst e
    exact .inl ⟨Nat.le_refl _, hd σ H p⟩
end L2
namespace L2
open PySem PySem.Spec PyProof.Rows
abbrev R2 := V → V → Hp → VK → Prop
def OpR (X : Cx) (f : Value → Value → Sem Value) (r : R2) : Prop :=
  ∀ (pins : List (Addr × Obj)) (s : Shared) (σ : St) (H : Hp) (x y : V) (v u : Value) (Q : VK), Inv X pins σ H s → RelV x v → RelV y u → r x y H Q →
    wpAny (model X.prog X.w) X.A (f v u) (EP X pins σ Q) X.xe s
def UnR (X : Cx) (f : Value → Sem Value) (r : V → Hp → VK → Prop) : Prop :=
  ∀ (pins : List (Addr × Obj)) (s : Shared) (σ : St) (H : Hp) (x : V) (v : Value) (Q : VK), Inv X pins σ H s → RelV x v → r x H Q →
    wpAny (model X.prog X.w) X.A (f v) (EP X pins σ Q) X.xe s
def CallR (X : Cx) (f : Value) (r : List V → Hp → VK → Prop) : Prop :=
  ∀ (pins : List (Addr × Obj)) (s : Shared) (σ : St) (H : Hp) (xs : List V) (us : List Value) (Q : VK), Inv X pins σ H s → Vals xs us → r xs H Q →
    wpAny (model X.prog X.w) X.A (call f us) (EP X pins σ Q) X.xe s
def tOp (r : R2) (ta tb : TE) : TE := fun σ H Q => ta σ H fun x H1 => tb σ H1 fun y H2 => r x y H2 Q
def tUn (r : V → Hp → VK → Prop) (ta : TE) : TE := fun σ H Q => ta σ H fun x H1 => r x H1 Q
def rI (C : Int → Int → Prop) (g : Int → Int → V) : R2 := fun x y H Q => ∃ i j, x = .int i ∧ y = .int j ∧ C i j ∧ Q (g i j) H
def rI0 (g : Int → Int → V) : R2 := fun x y H Q => ∃ i j, x = .int i ∧ y = .int j ∧ Q (g i j) H
def rU (g : Int → V) : V → Hp → VK → Prop := fun x H Q => ∃ i, x = .int i ∧ Q (g i) H
section
variable {X : Cx} {a b c : Expr} {ta tb tc : TE} {pos : Pos}
theorem binT (ha : PE X a ta) (hb : PE X b tb) {pins : List (Addr × Obj)} {s : Shared} {σ : St} {H : Hp} {R : V → V → Hp → Prop} (I : Inv X pins σ H s)
    (h : ta σ H fun x H1 => tb σ H1 fun y H2 => R x y H2) {Q : Value → Shared → Prop} {f : Value → Value → Sem Value}
    (hf : ∀ v u s2 x y H2, Inv X pins σ H2 s2 → RelV x v → RelV y u → R x y H2 → wpAny (model X.prog X.w) X.A (f v u) Q X.xe s2) :
    wpAny (model X.prog X.w) X.A (eval a X.env) (fun v s₁ => wpAny (model X.prog X.w) X.A (eval b X.env) (fun u s₂ => wpAny (model X.prog X.w) X.A (f v u) Q X.xe s₂) X.xe s₁) X.xe s := by
  refine thn (ha pins s σ H _ I h) fun v s1 ⟨x, H1, I1, r1, q1⟩ => ?_
  refine thn (hb pins s1 σ H1 _ I1 q1) fun u s2 ⟨y, H2, I2, r2, q2⟩ => ?_
  exact hf v u s2 x y H2 I2 r1 r2 q2
theorem pe_op {op : Operator} {r : R2} (ho : OpR X (binaryOp op) r) (ha : PE X a ta) (hb : PE X b tb) : PE X (.BinOp a op b pos) (tOp r ta tb) := by
  intro pins s σ H Q I h
  exact wpAny_BinOp (binT ha hb I h fun v u s2 x y H2 I2 rx ry q => ho pins s2 σ H2 x y v u Q I2 rx ry q)
theorem pe_un {op : UnaryOp} {r : V → Hp → VK → Prop} (ho : UnR X (unaryOp op) r) (ha : PE X a ta) : PE X (.UnaryOp op a pos) (tUn r ta) := by
  intro pins s σ H Q I h
  exact UnaryOp_ (thn (ha pins s σ H _ I h) fun v s1 ⟨x, H1, I1, r1, q1⟩ => ho pins s1 σ H1 x v Q I1 r1 q1)
theorem opI {f : Value → Value → Sem Value} {C : Int → Int → Prop} {g : Int → Int → Int}
    (rule : ∀ (i j : Int) (t u : Tok) (s : Shared) (Q : Value → Shared → Prop) (E : Value → Shared → Prop), C i j → Q (.int (g i j) s.toks) { s with toks := s.toks + 1 } → wpAny (model X.prog X.w) X.A (f (.int i t) (.int j u)) Q E s) :
    OpR X f (rI C fun i j => .int (g i j)) := by
  intro pins s σ H x y v u Q I rx ry h
  obtain ⟨i, j, rfl, rfl, hc, q⟩ := h
  obtain ⟨t, rfl⟩ := rx
  obtain ⟨t', rfl⟩ := ry
  exact rule i j t t' s _ _ hc ⟨.int (g i j), H, I.tok _, ⟨_, rfl⟩, q⟩
theorem opI0 {f : Value → Value → Sem Value} {g : Int → Int → Int}
    (rule : ∀ (i j : Int) (t u : Tok) (s : Shared) (Q : Value → Shared → Prop) (E : Value → Shared → Prop), Q (.int (g i j) s.toks) { s with toks := s.toks + 1 } → wpAny (model X.prog X.w) X.A (f (.int i t) (.int j u)) Q E s) :
    OpR X f (rI0 fun i j => .int (g i j)) := by
  intro pins s σ H x y v u Q I rx ry h
  obtain ⟨i, j, rfl, rfl, q⟩ := h
  obtain ⟨t, rfl⟩ := rx
  obtain ⟨t', rfl⟩ := ry
  exact rule i j t t' s _ _ ⟨.int (g i j), H, I.tok _, ⟨_, rfl⟩, q⟩
theorem opB0 {f : Value → Value → Sem Value} {g : Int → Int → Bool}
    (rule : ∀ (i j : Int) (t u : Tok) (s : Shared) (Q : Value → Shared → Prop) (E : Value → Shared → Prop), Q (.bool (g i j)) s → wpAny (model X.prog X.w) X.A (f (.int i t) (.int j u)) Q E s) :
    OpR X f (rI0 fun i j => .bl (g i j)) := by
  intro pins s σ H x y v u Q I rx ry h
  obtain ⟨i, j, rfl, rfl, q⟩ := h
  obtain ⟨t, rfl⟩ := rx
  obtain ⟨t', rfl⟩ := ry
  exact rule i j t t' s _ _ ⟨.bl (g i j), H, I, rfl, q⟩
def CDiv (i j : Int) : Prop := 0 < j ∧ j < 1073741824
def CPow (i j : Int) : Prop := 0 ≤ j ∧ j ≤ 1000000 ∧ i.natAbs < 2 ^ 64
def CMul (i j : Int) : Prop := (-(2 ^ 64) < i ∧ i < 2 ^ 64) ∨ (-(2 ^ 64) < j ∧ j < 2 ^ 64)
theorem CMul.ok {i j : Int} (h : CMul i j) : IntMulOk i j := by
  rcases h with ⟨h1, h2⟩ | ⟨h1, h2⟩
  · exact .of_left (intBits_le_64 h1 h2)
  · exact .of_right (intBits_le_64 h1 h2)
theorem op_add : OpR X (binaryOp .Add) (rI0 fun i j => .int (i + j)) := opI0 fun _ _ _ _ _ _ _ q => add_int q
theorem op_sub : OpR X (binaryOp .Sub) (rI0 fun i j => .int (i - j)) := opI0 fun _ _ _ _ _ _ _ q => sub_int q
theorem op_mul : OpR X (binaryOp .Mult) (rI CMul fun i j => .int (i * j)) := opI fun _ _ _ _ _ _ _ hc q => mul_int q hc.ok
theorem op_fdiv : OpR X (binaryOp .FloorDiv) (rI CDiv fun i j => .int (i / j)) := opI fun i j _ _ _ _ _ hc q => by
  have h1 : (0 : Int) < j := hc.1
  have h2 : j < 1073741824 := hc.2
  exact floordiv_int (by omega) (by rw [Int.fdiv_eq_ediv_of_nonneg i (by omega)]; exact q) (.inl (PyProof.noPylong_small (by omega)))
theorem op_mod : OpR X (binaryOp .Mod) (rI (fun _ j => 0 < j) fun i j => .int (i % j)) := opI fun i j _ _ _ _ _ hc q => by
  have h1 : (0 : Int) < j := hc
  exact mod_int' (by omega) (by rw [Int.fmod_eq_emod_of_nonneg i (by omega)]; exact q)
theorem op_pow : OpR X (binaryOp .Pow) (rI CPow fun i j => .int (i ^ j.toNat)) := opI fun _ _ _ _ _ _ _ hc q => pow_int_small hc.1 hc.2.1 hc.2.2 q
theorem unI {f : Value → Sem Value} {g : Int → Int}
    (rule : ∀ (i : Int) (t : Tok) (s : Shared) (Q : Value → Shared → Prop) (E : Value → Shared → Prop), Q (.int (g i) s.toks) { s with toks := s.toks + 1 } → wpAny (model X.prog X.w) X.A (f (.int i t)) Q E s) :
    UnR X f (rU fun i => .int (g i)) := by
  intro pins s σ H x v Q I rx h
  obtain ⟨i, rfl, q⟩ := h
  obtain ⟨t, rfl⟩ := rx
  exact rule i t s _ _ ⟨.int (g i), H, I.tok _, ⟨_, rfl⟩, q⟩
theorem un_neg : UnR X (unaryOp .USub) (rU fun i => .int (-i)) := unI fun _ _ _ _ _ q => neg_int q
end
def scal : V → V → Bool
  | .non, .non => true | .non, .int _ => true | .int _, .non => true | .non, .bl _ => true | .bl _, .non => true | .non, .str _ => true | .str _, .non => true
  | .int _, .int _ => true | .bl _, .bl _ => true | .str _, .str _ => true | .byt _, .byt _ => true
  | .int _, .str _ => true | .str _, .int _ => true | .bl _, .str _ => true | .str _, .bl _ => true
  | _, _ => false
def rEq : R2 := fun x y H Q => scal x y = true ∧ Q (.bl (decide (x = y))) H
def rNe : R2 := fun x y H Q => scal x y = true ∧ Q (.bl (!decide (x = y))) H
theorem dec_int {i j : Int} : decide (V.int i = V.int j) = (i == j) := by
  rw [Bool.eq_iff_iff]
  simp
theorem dec_bl {i j : Bool} : decide (V.bl i = V.bl j) = (i == j) := by
  rw [Bool.eq_iff_iff]
  simp
theorem dec_str {i j : Str} : decide (V.str i = V.str j) = (i == j) := by
  rw [Bool.eq_iff_iff]
  simp
theorem dec_byt {i j : Array UInt8} : decide (V.byt i = V.byt j) = (i.toList == j.toList) := by
  rw [Bool.eq_iff_iff]
  cases i
  cases j
  simp
section
variable {X : Cx} {a b c : Expr} {ta tb tc : TE} {pos : Pos}
theorem fin_bl {pins : List (Addr × Obj)} {σ : St} {H : Hp} {s : Shared} {Q : VK} {k k' : Bool} (I : Inv X pins σ H s) (q : Q (.bl k) H) (e : k = k') : EP X pins σ Q (.bool k') s := by
  subst e
  exact ⟨.bl k, H, I, rfl, q⟩
theorem op_eq : OpR X (compareOp .Eq) rEq := by
  intro pins s σ H x y v u Q I rx ry h
  obtain ⟨hs, q⟩ := h
  cases x with
  | non =>
    cases rx
    cases y with
    | non => cases ry; exact PySem.EqNone.eq_none_none (fin_bl I q (by simp))
    | bl j => cases ry; exact PySem.EqNone.eq_none_bool (fin_bl I q (by simp))
    | int j => obtain ⟨t', rfl⟩ := ry; exact PySem.EqNone.eq_none_int (fin_bl I q (by simp))
    | str j => obtain ⟨t', rfl⟩ := ry; exact PySem.EqNone.eq_none_str (fin_bl I q (by simp))
    | _ => exact absurd (show false = true from hs) Bool.false_ne_true
  | bl i =>
    cases rx
    cases y with
    | non => cases ry; exact PySem.EqNone.eq_bool_none (fin_bl I q (by simp))
    | bl j => cases ry; exact eq_bool (fin_bl I q dec_bl)
    | str j => obtain ⟨t', rfl⟩ := ry; exact PySem.EqMixed.eq_bool_str (fin_bl I q (by simp))
    | _ => exact absurd (show false = true from hs) Bool.false_ne_true
  | int i =>
    obtain ⟨t, rfl⟩ := rx
    cases y with
    | non => cases ry; exact PySem.EqNone.eq_int_none (fin_bl I q (by simp))
    | int j => obtain ⟨t', rfl⟩ := ry; exact eq_int (fin_bl I q dec_int)
    | str j => obtain ⟨t', rfl⟩ := ry; exact PySem.EqMixed.eq_int_str (fin_bl I q (by simp))
    | _ => exact absurd (show false = true from hs) Bool.false_ne_true
  | str i =>
    obtain ⟨t, rfl⟩ := rx
    cases y with
    | non => cases ry; exact PySem.EqNone.eq_str_none (fin_bl I q (by simp))
    | bl j => cases ry; exact PySem.EqMixed.eq_str_bool (fin_bl I q (by simp))
    | int j => obtain ⟨t', rfl⟩ := ry; exact PySem.EqMixed.eq_str_int (fin_bl I q (by simp))
    | str j => obtain ⟨t', rfl⟩ := ry; exact eq_str (fin_bl I q dec_str)
    | _ => exact absurd (show false = true from hs) Bool.false_ne_true
  | byt i =>
    obtain ⟨t, rfl⟩ := rx
    cases y with
    | byt j => obtain ⟨t', rfl⟩ := ry; exact PySem.W.eq_bytes (fin_bl I q dec_byt)
    | _ => exact absurd (show false = true from hs) Bool.false_ne_true
  | _ => cases y <;> exact absurd (show false = true from hs) Bool.false_ne_true
theorem op_ne : OpR X (compareOp .NotEq) rNe := by
  intro pins s σ H x y v u Q I rx ry h
  obtain ⟨hs, q⟩ := h
  cases x with
  | non =>
    cases rx
    cases y with
    | non => cases ry; exact PySem.EqNone.ne_none_none (fin_bl I q (by simp))
    | bl j => cases ry; exact PySem.EqNone.ne_none_bool (fin_bl I q (by simp))
    | int j => obtain ⟨t', rfl⟩ := ry; exact PySem.EqNone.ne_none_int (fin_bl I q (by simp))
    | str j => obtain ⟨t', rfl⟩ := ry; exact PySem.EqNone.ne_none_str (fin_bl I q (by simp))
    | _ => exact absurd (show false = true from hs) Bool.false_ne_true
  | bl i =>
    cases rx
    cases y with
    | non => cases ry; exact PySem.EqNone.ne_bool_none (fin_bl I q (by simp))
    | bl j => cases ry; exact ne_bool (fin_bl I q (congrArg not dec_bl))
    | str j => obtain ⟨t', rfl⟩ := ry; exact PySem.EqMixed.ne_bool_str (fin_bl I q (by simp))
    | _ => exact absurd (show false = true from hs) Bool.false_ne_true
  | int i =>
    obtain ⟨t, rfl⟩ := rx
    cases y with
    | non => cases ry; exact PySem.EqNone.ne_int_none (fin_bl I q (by simp))
    | int j => obtain ⟨t', rfl⟩ := ry; exact ne_int (fin_bl I q (congrArg not dec_int))
    | str j => obtain ⟨t', rfl⟩ := ry; exact PySem.EqMixed.ne_int_str (fin_bl I q (by simp))
    | _ => exact absurd (show false = true from hs) Bool.false_ne_true
  | str i =>
    obtain ⟨t, rfl⟩ := rx
    cases y with
    | non => cases ry; exact PySem.EqNone.ne_str_none (fin_bl I q (by simp))
    | bl j => cases ry; exact PySem.EqMixed.ne_str_bool (fin_bl I q (by simp))
    | int j => obtain ⟨t', rfl⟩ := ry; exact PySem.EqMixed.ne_str_int (fin_bl I q (by simp))
    | str j => obtain ⟨t', rfl⟩ := ry; exact ne_str (fin_bl I q (congrArg not dec_str))
    | _ => exact absurd (show false = true from hs) Bool.false_ne_true
  | byt i =>
    obtain ⟨t, rfl⟩ := rx
    cases y with
    | byt j => obtain ⟨t', rfl⟩ := ry; exact PySem.W.ne_bytes (fin_bl I q (congrArg not dec_byt))
    | _ => exact absurd (show false = true from hs) Bool.false_ne_true
  | _ => cases y <;> exact absurd (show false = true from hs) Bool.false_ne_true
theorem op_lt : OpR X (compareOp .Lt) (rI0 fun i j => .bl (decide (i < j))) := opB0 fun _ _ _ _ _ _ _ q => lt_int q
theorem op_le : OpR X (compareOp .LtE) (rI0 fun i j => .bl (decide (i ≤ j))) := opB0 fun _ _ _ _ _ _ _ q => le_int q
theorem op_gt : OpR X (compareOp .Gt) (rI0 fun i j => .bl (decide (j < i))) := opB0 fun _ _ _ _ _ _ _ q => gt_int q
theorem op_ge : OpR X (compareOp .GtE) (rI0 fun i j => .bl (decide (j ≤ i))) := opB0 fun _ _ _ _ _ _ _ q => ge_int q
theorem op_isN : OpR X (compareOp .Is) (fun x y H Q => y = .non ∧ Q (.bl (decide (x = .non))) H) := by
  intro pins s σ H x y v u Q I rx ry h
  obtain ⟨rfl, q⟩ := h
  cases ry
  refine is_none_gen (fin_bl I q ?_)
  cases x <;> first
    | (cases rx; rfl)
    | (obtain ⟨t, rfl⟩ := rx; rfl)
theorem nomark (b : Expr) {op : CmpOp} (h : op ≠ .In := by decide) (h2 : op ≠ .NotIn := by decide) : behindInMarks op b = false := by
  have e1 : (op == CmpOp.In) = false := by cases op <;> first | rfl | exact absurd rfl h
  have e2 : (op == CmpOp.NotIn) = false := by cases op <;> first | rfl | exact absurd rfl h2
  cases b <;> simp [behindInMarks, e1, e2]
theorem pe_cmpR {op : CmpOp} {r : R2} (ho : OpR X (compareOp op) r) (ha : PE X a ta) (hb : PE X b tb) (hm : behindInMarks op b = false) : PE X (.Compare a [op] [b] pos) (tOp r ta tb) := by
  intro pins s σ H Q I h
  exact wpAny_Compare1 (binT ha hb I h fun v u s2 x y H2 I2 rx ry q => ho pins s2 σ H2 x y v u Q I2 rx ry q) hm
def tTest (t : TE) : TT := fun σ H Q => t σ H fun x H' => ∃ k, x = .bl k ∧ Q k H'
theorem pt_cmpR {op : CmpOp} {r : R2} (ho : OpR X (compareOp op) r) (ha : PE X a ta) (hb : PE X b tb) (hm : behindInMarks op b = false) : PT X (.Compare a [op] [b] pos) (tTest (tOp r ta tb)) := by
  intro pins s σ H Q I h
  refine wpAny_isTrue_Compare1 (thn (ha pins s σ H _ I h) fun v s1 ⟨x, H1, I1, r1, q1⟩ => thn (hb pins s1 σ H1 _ I1 q1) fun u s2 ⟨y, H2, I2, r2, q2⟩ =>
    thn (ho pins s2 σ H2 x y v u _ I2 r1 r2 q2) fun c s3 ⟨z, H3, I3, r3, k, e, q3⟩ => ?_) hm
  subst e
  cases r3
  exact wpAny_truthy_bool ⟨H3, I3, q3⟩
def tChain (r r' : R2) (ta tb tc : TE) : TE := fun σ H Q => ta σ H fun x H1 => tb σ H1 fun y H2 => r x y H2 fun z H3 => ∃ k, z = .bl k ∧
  (if k = true then tc σ H3 fun w' H4 => r' y w' H4 Q else Q (.bl false) H3)
theorem pt_chain {op op' : CmpOp} {r r' : R2} (ho : OpR X (compareOp op) r) (ho' : OpR X (compareOp op') r') (ha : PE X a ta) (hb : PE X b tb) (hc : PE X c tc)
    (hm : lastMarks [op, op'] [b, c] = false := by with_unfolding_all rfl) : PT X (.Compare a [op, op'] [b, c] pos) (tTest (tChain r r' ta tb tc)) := by
  intro pins s σ H Q I h
  refine isTrue_chain (thn (ha pins s σ H _ I h) fun v s1 ⟨x, H1, I1, r1, q1⟩ => test_link (thn (hb pins s1 σ H1 _ I1 q1) fun u s2 ⟨y, H2, I2, r2, q2⟩ =>
    thn (ho pins s2 σ H2 x y v u _ I2 r1 r2 q2) fun d s3 ⟨z, H3, I3, r3, k, e, q3⟩ => ?_)) hm
  subst e
  cases r3
  refine wpAny_truthy_bool ?_
  cases k with
  | false =>
    obtain ⟨k', e', q'⟩ := q3
    cases e'
    exact ite_ff ⟨H3, I3, q'⟩
  | true =>
    refine ite_tt (test_last (thn (hc pins s3 σ H3 _ I3 q3) fun w' s4 ⟨z', H4, I4, r4, q4⟩ => thn (ho' pins s4 σ H4 y z' u w' _ I4 r2 r4 q4) fun d' s5 ⟨z2, H5, I5, r5, k2, e2, q5⟩ => ?_))
    subst e2
    cases r5
    exact wpAny_truthy_bool ⟨H5, I5, q5⟩
theorem line63 : (sizeLine : Nat) < 2 ^ 63 := by rw [sizeLine_eq]; decide
theorem op_add_str : OpR X (binaryOp .Add) (fun x y H Q => ∃ i j, x = .str i ∧ y = .str j ∧ i.length + j.length ≤ sizeLine ∧ Q (.str (i ++ j)) H) := by
  intro pins s σ H x y v u Q I rx ry h
  obtain ⟨i, j, rfl, rfl, hz, q⟩ := h
  obtain ⟨t, rfl⟩ := rx
  obtain ⟨t', rfl⟩ := ry
  exact add_str (fun t' tk => ⟨.str (i ++ j), H, I.tok _, ⟨_, rfl⟩, q⟩) hz
def PlainIxT (b : Expr) : Prop := ∀ o i, subscripted b false o i = operate [o, i] (getItem o i)
theorem pe_item_str (ha : PE X a ta) (hb : PE X b tb) (hs : PlainIxT b) :
    PE X (.Subscript a b pos) (tOp (fun x y H Q => ∃ z i c, x = .str z ∧ y = .int i ∧ 0 ≤ i ∧ i < 2 ^ 63 ∧ i < z.length ∧ z.cps[i.toNat]? = some c ∧ Q (.str ⟨#[c]⟩) H) ta tb) := by
  intro pins s σ H Q I h
  refine Subscript_ (binT ha hb I h fun v u s2 x y H2 I2 rx ry q => ?_)
  obtain ⟨z, i, c, rfl, rfl, h0, h63, h1, hc, q⟩ := q
  obtain ⟨t, rfl⟩ := rx
  obtain ⟨t', rfl⟩ := ry
  have e : seqIndex? i z.length = some i.toNat := PySem.StrLaws.seqIndex_nonneg h0 h1
  exact tail_any (typeIs_str s2 z t) slot_str_getitem.lookup (getItem_str (c := c) (by
    have e1 : decide (i < -(2 ^ 63 : Int)) = false := decide_eq_false (by omega)
    have e2 : decide (i ≥ 2 ^ 63) = false := decide_eq_false (by omega)
    rw [e1, e2] <;> rfl) (by rw [e]; exact hc) ⟨.str ⟨#[c]⟩, H2, I2.tok _, ⟨_, rfl⟩, q⟩) (hs _ _)
theorem vals1 {x : V} {us : List Value} (r : Vals [x] us) : ∃ u, us = [u] ∧ RelV x u := by
  cases r with
  | cons r1 r2 => cases r2; exact ⟨_, rfl, r1⟩
theorem vals2 {x y : V} {us : List Value} (r : Vals [x, y] us) : ∃ u w', us = [u, w'] ∧ RelV x u ∧ RelV y w' := by
  cases r with
  | cons r1 r2 =>
    cases r2 with
    | cons r3 r4 => cases r4; exact ⟨_, _, rfl, r1, r3⟩
theorem call_abs : CallR X (.builtin "abs") (fun xs H Q => ∃ i, xs = [.int i] ∧ Q (.int (if i < 0 then -i else i)) H) := by
  intro pins s σ H xs us Q I r h
  obtain ⟨i, rfl, q⟩ := h
  obtain ⟨u, rfl, t, rfl⟩ := vals1 r
  exact call_abs_int fun u tk => ⟨.int (if i < 0 then -i else i), H, I.tok _, ⟨_, rfl⟩, q⟩
theorem call_int1 : CallR X (.type "int") (fun xs H Q => (∃ i, xs = [.int i] ∧ Q (.int i) H) ∨ ∃ k, xs = [.bl k] ∧ Q (.int (if k then 1 else 0)) H) := by
  intro pins s σ H xs us Q I r h
  rcases h with ⟨i, rfl, q⟩ | ⟨k, rfl, q⟩
  · obtain ⟨u, rfl, t, rfl⟩ := vals1 r
    exact call_int_int ⟨.int i, H, I, ⟨_, rfl⟩, q⟩
  · obtain ⟨u, rfl, r1⟩ := vals1 r
    cases r1
    exact call_int_bool ⟨.int (if k then 1 else 0), H, I.tok _, ⟨_, rfl⟩, q⟩
theorem call_str_int : CallR X (.type "str") (fun xs H Q => ∃ i, xs = [.int i] ∧ i.natAbs.log2 < 1920 ∧ Q (.str (toString i)) H) := by
  intro pins s σ H xs us Q I r h
  obtain ⟨i, rfl, hz, q⟩ := h
  obtain ⟨u, rfl, t, rfl⟩ := vals1 r
  exact PySem.P.str_of_int hz ⟨.str _, H, I.tok _, ⟨_, rfl⟩, q⟩
end
end L2
namespace L2
open PySem PySem.Spec PyProof.Rows
structure ObjM (h : Heap) (x dx C : Addr) (mA : Str → Option Value) : Prop where
  obj : h.get? x = some (PySem.W.instObj C dx)
  ns : h.Ns1 dx mA
  ne : dx ≠ x
theorem lookIn_ns {h : Heap} {dx : Addr} {mA : Str → Option Value} (n : h.Ns1 dx mA) : ∃ od, h.get? dx = some od ∧ ∀ name, PySem.W.lookIn name od = some (mA name) := by
  obtain ⟨o, es, ep, ho, hd, hk, _, hm⟩ := n
  refine ⟨o, ho, fun name => ?_⟩
  have e := hm name
  unfold nsFind findBy at e
  rw [← Array.find?_toList] at e
  unfold PySem.W.lookIn
  rw [hd]
  dsimp only
  split
  · rename_i y q
    rw [q] at e
    exact congrArg some e
  · rename_i q
    rw [q] at e
    have a : es.toList.any (·.refKey) = false := by
      rw [List.any_eq_false]
      intro y hy
      obtain ⟨z, t, hkey⟩ := hk y (Array.mem_toList_iff.mp hy)
      simp [DictEntry.refKey, hkey]
    have a' : ¬ es.toList.any (·.refKey) = true := by rw [a]; exact Bool.false_ne_true
    rw [if_neg a']
    exact congrArg some e
theorem ObjM.look {h : Heap} {x dx C : Addr} {mA : Str → Option Value} (I : ObjM h x dx C mA) : ∃ od, PySem.W.InstAt h x (PySem.W.instObj C dx) C (some od) ∧ ∀ name, PySem.W.lookIn name od = some (mA name) :=
  let ⟨od, ho, hl⟩ := lookIn_ns I.ns
  ⟨od, ⟨I.obj, rfl, rfl, ho⟩, hl⟩
section
variable {prog : Program} {w : World} {A : Around} {E : Value → Shared → Prop} {s : Shared} {K : PySem.W.Frag} {x dx C f : Addr} {mA : Str → Option Value} {name : Str} {v : Value}
theorem get_map {expr : Bool} {Q : Value → Shared → Prop} (X : K.In s.heap) (I : ObjM s.heap x dx C mA) (hg : PySem.W.plainGet K C name = true) (hh : PySem.W.hasDictIn K C = true)
    (ha : PySem.W.findIn K (.ref C) name = some none) (hv : mA name = some v) (hv' : PySem.W.handedIn v = true) (h : Q v { s with toks := s.toks + 1 }) :
    wpAny (model prog w) A (getAttr (.ref x) name expr) Q E s := by
  obtain ⟨od, J, hl⟩ := I.look
  exact PySem.W.get_value X J (PySem.W.plainGet_of hg).1 (PySem.W.findObj_own hh ha rfl (by rw [hl, hv])) hv' h
theorem get_meth {pl : Sem Bool} {Q : Value × List Value → Shared → Prop} (X : K.In s.heap) (I : ObjM s.heap x dx C mA) (hg : PySem.W.plainGet K C name = true)
    (hf : PySem.W.findIn K (.ref C) name = some (some (.ref f))) (ht : PySem.W.isFn K (.ref f) = true) (hv : mA name = none) (h : Q (.ref f, [.ref x]) s) :
    wpAny (model prog w) A (getMethod (.ref x) name pl) Q E s := by
  obtain ⟨od, J, hl⟩ := I.look
  exact PySem.W.method_fn X J (PySem.W.plainGet_of hg).1 (PySem.W.plainGet_of hg).2 hf (beq_iff_eq.mp ht) (by show (PySem.W.lookIn name od).map (·.isSome) = some false; rw [hl, hv]; rfl) h
theorem set_map {ns : List Str} {Q : Unit → Shared → Prop} (X : K.In s.heap) (I : ObjM s.heap x dx C mA)
    (hs : PySem.W.findIn K (.ref C) "__setattr__" = some (some (.builtin "object.__setattr__"))) (hp : PySem.W.plainOver K C = true) (ht : PySem.W.takerIn K C name = some none) (hh : PySem.W.hasDictIn K C = true)
    (hw : PySem.Within mA ns) (hsz : ns.length ≤ sizeLine)
    (h : ∀ h', ObjM h' x dx C (fun y => if y = name then some v else mA y) → Heap.SameBut dx s.heap h' → Q () { s with heap := h', toks := s.toks + 2 }) :
    wpAny (model prog w) A (setAttr (.ref x) name v) Q E s := by
  obtain ⟨od, J, hl⟩ := I.look
  refine PySem.W.set_plain X J hs (PySem.W.osa_open (s := { s with toks := s.toks + 1 }) (r := none) X J hp ht fun b => ?_)
  obtain ⟨cd, hc, hd'⟩ := PySem.W.any_some hh
  have hx : s.heap.get? x = some ⟨.ref C, some dx, .plain, #[]⟩ := I.obj
  refine wpAny_bind (wpAny_pure (wpAny_bind (wpAny_bind (wpAny_loadPart hx (wpAny_bind (PySem.W.Looks.here (s := { s with toks := s.toks + 1 }) (PySem.W.looks_clsIn X hc) ?_))))))
  rw [hd']
  refine wpAny_pure (a := some dx) (wpAny_bind (wpAny_pure (wpAny_bind ?_)))
  refine wpAny_nsSet1 (s := { s with toks := s.toks + 1 }) I.ns fun h' hn2 hs2 => ?_
  obtain ⟨oD, esD, epD, hoD, hdD, hcD⟩ := hn2.count (PySem.Within.cons name v hw)
  refine wpAny_bind (wpAny_lookBehind hoD (by rw [hdD]; exact pastItsLine_dict (Nat.le_trans hcD (by rw [List.length_cons]; omega))) ?_)
  exact wpAny_pure (h _ ⟨(hs2.2 _ (Ne.symm I.ne)).trans I.obj, hn2, I.ne⟩ hs2)
theorem make_map {R : Result → Shared → Prop} {vs : List Value} {kw : List (Str × Value)} (X : K.In s.heap) (hm : PySem.W.makesIn K C = true)
    (hi : PySem.W.findIn K (.ref C) "__init__" = some (some (.ref f))) (hf : PySem.W.typeIn K (.ref f) = some (.type "function"))
    (h : codeAny (model prog w) (A.under (.builtin "type.__call__" ⟨.ref C :: vs, kw⟩)) (.call (.ref f) ⟨.ref (s.heap.objs.size + 1) :: vs, kw⟩) (PySem.W.InitBack (s.heap.objs.size + 1) R)
      { s with heap := (s.heap.push PySem.W.emptyDict).push (PySem.W.instObj C s.heap.objs.size) }) :
    codeAny (model prog w) A (.call (.ref C) ⟨vs, kw⟩) R s := by
  obtain ⟨hh, g, d, t, os⟩ := s
  exact PySem.W.make_core (PySem.W.makes_of X hm) (PySem.W.looks_findIn X hi) (fun self => PySem.W.bind_fn X self hf) (.inl rfl) h
end
def putF (f : Str) (v : V) : List (Str × V) → List (Str × V)
  | [] => [(f, v)]
  | (g, x) :: r => if g = f then (g, v) :: r else (g, x) :: putF f v r
theorem lookup_putF (f g : Str) (v : V) : ∀ fs : List (Str × V), (putF f v fs).lookup g = if g = f then some v else fs.lookup g
  | [] => by
    show List.lookup g [(f, v)] = _
    by_cases h : g = f
    · have hb : (g == f) = true := beq_iff_eq.mpr h
      simp only [List.lookup, hb, if_pos h]
    · have hb : (g == f) = false := beq_eq_false_iff_ne.mpr h
      simp only [List.lookup, hb, if_neg h]
  | (k, x) :: r => by
    have ih := lookup_putF f g v r
    rw [show putF f v ((k, x) :: r) = (if k = f then (k, v) :: r else (k, x) :: putF f v r) from rfl]
    by_cases hk : k = f
    · rw [if_pos hk]
      by_cases h : g = k
      · have hb : (g == k) = true := beq_iff_eq.mpr h
        simp only [List.lookup, hb, if_pos (h.trans hk)]
      · have hb : (g == k) = false := beq_eq_false_iff_ne.mpr h
        simp only [List.lookup, hb, if_neg (fun e : g = f => h (e.trans hk.symm))]
    · rw [if_neg hk]
      by_cases h : g = k
      · have hb : (g == k) = true := beq_iff_eq.mpr h
        simp only [List.lookup, hb, if_neg (fun e : g = f => hk (h.symm.trans e))]
      · have hb : (g == k) = false := beq_eq_false_iff_ne.mpr h
        simp only [List.lookup, hb]
        exact ih
theorem keys_putF (f : Str) (v : V) : ∀ fs : List (Str × V), f ∈ (putF f v fs).map (·.1) ∧ ∀ g, g ∈ fs.map (·.1) → g ∈ (putF f v fs).map (·.1)
  | [] => ⟨by simp [putF], fun g h => by simp at h⟩
  | (k, x) :: r => by
    obtain ⟨i1, i2⟩ := keys_putF f v r
    rw [show putF f v ((k, x) :: r) = (if k = f then (k, v) :: r else (k, x) :: putF f v r) from rfl]
    by_cases hk : k = f
    · rw [if_pos hk]
      subst hk
      exact ⟨by simp, fun g h => by simpa using h⟩
    · rw [if_neg hk]
      refine ⟨?_, fun g h => ?_⟩
      · rw [List.map_cons]
        exact List.mem_cons_of_mem _ i1
      · rw [List.map_cons] at h ⊢
        rcases List.mem_cons.mp h with e | e
        · exact List.mem_cons.mpr (.inl e)
        · exact List.mem_cons_of_mem _ (i2 g e)
theorem length_putF (f : Str) (v : V) : ∀ fs : List (Str × V), (putF f v fs).length ≤ fs.length + 1
  | [] => by simp [putF]
  | (k, x) :: r => by
    have ih := length_putF f v r
    rw [show putF f v ((k, x) :: r) = (if k = f then (k, v) :: r else (k, x) :: putF f v r) from rfl]
    by_cases hk : k = f
    · rw [if_pos hk, List.length_cons, List.length_cons]; omega
    · rw [if_neg hk, List.length_cons, List.length_cons]; omega
theorem RelO.some_of {v : V} {o : Option Value} (r : RelO (some v) o) : ∃ u, o = some u ∧ RelV v u := by
  cases o with
  | none => exact (show False from r).elim
  | some u => exact ⟨u, rfl, r⟩
theorem RelO.none_of {o : Option Value} (r : RelO none o) : o = none := by
  cases o with
  | none => rfl
  | some u => exact (show False from r).elim
theorem handed_of {v : V} {u : Value} (r : RelV v u) : PySem.W.handedIn u = true := by
  cases v with
  | non => cases (show u = Value.none from r); rfl
  | bl b => cases (show u = Value.bool b from r); rfl
  | int i => obtain ⟨t, e⟩ := (show ∃ t, u = Value.int i t from r); cases e; rfl
  | str x => obtain ⟨t, e⟩ := (show ∃ t, u = Value.str x t from r); cases e; rfl
  | byt b => obtain ⟨t, e⟩ := (show ∃ t, u = Value.bytes b t from r); cases e; rfl
  | flt b => obtain ⟨t, e⟩ := (show ∃ t, u = Value.float b t from r); cases e; rfl
  | ref a => cases (show u = Value.ref a from r); rfl
  | ty n => cases (show u = Value.type n from r); rfl
section
variable {P : Program} {w : World} {H H' : Hp} {h h' : Heap} {a C dx : Addr} {fs fs' : List (Str × V)}
theorem ins_get (hok : HOk P w H h) (e : H a = some (.ins C dx fs)) : ∃ mA, ObjM h a dx C mA ∧ (∀ f, RelO (fs.lookup f) (mA f)) ∧ PySem.Within mA (fs.map (·.1)) ∧ fs.length ≤ 1000 ∧ H dx = some (.own a) := by
  obtain ⟨d, z, ne, ob, mA, n, r, q⟩ := (show ObjOk P w H h a (.ins C dx fs) from hok a _ e)
  exact ⟨mA, ⟨ob, n, ne⟩, r, q, z, d⟩
end
structure Cls (K : PySem.W.Frag) (C : Addr) : Prop where
  pg : PySem.W.plainGet K C Str.empty = true
  hd : PySem.W.hasDictIn K C = true
  po : PySem.W.plainOver K C = true
  sa : PySem.W.findIn K (.ref C) "__setattr__" = some (some (.builtin "object.__setattr__"))
theorem Cls.get {K : PySem.W.Frag} {C : Addr} (c : Cls K C) (f : Str) : PySem.W.plainGet K C f = true := c.pg
def NoAttr (K : PySem.W.Frag) (C : Addr) (f : Str) : Prop := PySem.W.findIn K (.ref C) f = some none
theorem NoAttr.taker {K : PySem.W.Frag} {C : Addr} {f : Str} (n : NoAttr K C f) : PySem.W.takerIn K C f = some none := by
  unfold PySem.W.takerIn
  rw [show PySem.W.findIn K (.ref C) f = some none from n]
  rfl
structure Meth (K : PySem.W.Frag) (C : Addr) (m : Str) (f : Addr) : Prop where
  at_ : PySem.W.findIn K (.ref C) m = some (some (.ref f))
  fn : PySem.W.isFn K (.ref f) = true
  kp : PySem.W.keepIn K (.ref f) = true
section
variable {X : Cx} {pins : List (Addr × Obj)} {σ : St} {H : Hp} {s : Shared} {a C dx : Addr} {fs : List (Str × V)} {f : Str} {v : V} {A : Around} {E : Value → Shared → Prop}
theorem getattr_ok {b : Bool} {Q : Value → Shared → Prop} (I : Inv X pins σ H s) (e : H a = some (.ins C dx fs)) (c : Cls X.K C) (n : NoAttr X.K C f) (l : fs.lookup f = some v)
    (h : ∀ u s', Inv X pins σ H s' → RelV v u → Q u s') : wpAny (model X.prog X.w) A (getAttr (.ref a) f b) Q E s := by
  obtain ⟨mA, O, r, _, _, _⟩ := ins_get I.hok e
  obtain ⟨u, hu, ru⟩ := RelO.some_of (v := v) (o := mA f) (by rw [← l]; exact r f)
  exact get_map I.kIn O (c.get f) c.hd n hu (handed_of ru) (h u _ (I.tok _) ru)
theorem getmeth_ok {m : Str} {g : Addr} {pl : Sem Bool} {Q : Value × List Value → Shared → Prop} (I : Inv X pins σ H s) (e : H a = some (.ins C dx fs)) (c : Cls X.K C) (k : Meth X.K C m g) (l : fs.lookup m = none)
    (h : Q (.ref g, [.ref a]) s) : wpAny (model X.prog X.w) A (getMethod (.ref a) m pl) Q E s := by
  obtain ⟨mA, O, r, _, _, _⟩ := ins_get I.hok e
  have hn : mA m = none := RelO.none_of (by rw [← l]; exact r m)
  exact get_meth I.kIn O (c.get m) k.at_ k.fn hn h
theorem setattr_ok {y : V} {u : Value} {Q : Unit → Shared → Prop} (I : Inv X pins σ H s) (e : H a = some (.ins C dx fs)) (c : Cls X.K C) (n : NoAttr X.K C f) (hl : fs.length < 1000) (ry : RelV y u)
    (h : ∀ s', Inv X pins σ (upd H a (.ins C dx (putF f y fs))) s' → Q () s') : wpAny (model X.prog X.w) A (setAttr (.ref a) f u) Q E s := by
  obtain ⟨mA, O, r, wi, _, ho⟩ := ins_get I.hok e
  have hz : (fs.map (·.1)).length ≤ sizeLine := by rw [List.length_map, sizeLine_eq]; omega
  refine set_map I.kIn O c.sa c.po n.taker c.hd wi hz fun h' O' sb => h _ ?_
  have hd : ∃ o, h'.get? dx = some o := let ⟨o, _, _, e', _⟩ := O'.ns; ⟨o, e'⟩
  refine I.write (x := a) (e := dx) (by rw [e]; exact True.intro) (.inr ho) (fun b q hb z => (sb.2 b hb).trans z) hd ?_
  refine ⟨by rw [upd_ne O.ne]; exact ho, ?_, O.ne, O'.obj, _, O'.ns, fun g => ?_, fun g hg => ?_⟩
  · have := length_putF f y fs; omega
  · show RelO ((putF f y fs).lookup g) (if g = f then some u else mA g)
    rw [lookup_putF]
    by_cases q : g = f
    · rw [if_pos q, if_pos q]; exact ry
    · rw [if_neg q, if_neg q]; exact r g
  · by_cases q : g = f
    · rw [q]; exact (keys_putF f y fs).1
    · refine (keys_putF f y fs).2 g (wi g fun z => hg ?_)
      show (if g = f then some u else mA g) = none
      rw [if_neg q]; exact z
theorem Inv.made (I : Inv X pins σ H s) : Inv X pins σ (upd (upd H s.heap.objs.size (.own (s.heap.objs.size + 1))) (s.heap.objs.size + 1) (.ins C s.heap.objs.size []))
    { s with heap := (s.heap.push PySem.W.emptyDict).push (PySem.W.instObj C s.heap.objs.size) } := by
  have e1 : (s.heap.push PySem.W.emptyDict).get? s.heap.objs.size = some PySem.W.emptyDict := Heap.get?_push_size s.heap rfl
  have e2 : ((s.heap.push PySem.W.emptyDict).push (PySem.W.instObj C s.heap.objs.size)).get? (s.heap.objs.size + 1) = some (PySem.W.instObj C s.heap.objs.size) := by
    have := Heap.get?_push_size (s.heap.push PySem.W.emptyDict) (o := PySem.W.instObj C s.heap.objs.size) rfl
    rwa [Heap.size_push] at this
  have e3 : (s.heap.push PySem.W.emptyDict).Ns s.heap.objs.size (fun _ => none) := ⟨PySem.W.emptyDict, #[], _, e1, rfl, (fun e he => absurd he (by simp)), fun _ => rfl⟩
  have I1 := I.laid (a := s.heap.objs.size) (o := .own (s.heap.objs.size + 1)) (h' := s.heap.push PySem.W.emptyDict) (t' := s.toks) (fun b u q => Heap.get?_push_of_some _ q) (Nat.le_refl _) ⟨_, e1⟩
  refine I1.laid (a := s.heap.objs.size + 1) (o := .ins C s.heap.objs.size []) (t' := s.toks) (fun b u q => Heap.get?_push_of_some _ q) (Nat.le_of_eq (Heap.size_push _ _)) ?_
  have ne : s.heap.objs.size ≠ s.heap.objs.size + 1 := Nat.ne_of_lt (Nat.lt_succ_self _)
  refine ⟨by rw [upd_ne ne, upd_same], Nat.zero_le _, ne, e2, fun _ => none, (Heap.Ns1.of_empty e3).at fun o q => Heap.get?_push_of_some _ q, fun _ => True.intro, fun y hy => absurd rfl hy⟩
theorem attr_of {prog : Program} {w : World} {env : Env} {e : Expr} {f : Str} {pos : Pos} {s : Shared} {Q : Value → Shared → Prop} (hb : attributeBase e f env (eval e env) = eval e env)
    (h : wpAny (model prog w) A (eval e env) (fun o s₁ => wpAny (model prog w) A (getAttr o f true) Q E s₁) E s) : wpAny (model prog w) A (eval (.Attribute e f pos) env) Q E s :=
  Attribute_any_ h (by rw [arm_eval_Attribute, hb])
end
def tFld (K : PySem.W.Frag) (ta : TE) (f : Str) : TE := fun σ H Q => ta σ H fun x H1 => ∃ a C dx fs v, x = .ref a ∧ H1 a = some (.ins C dx fs) ∧ Cls K C ∧ NoAttr K C f ∧ fs.lookup f = some v ∧ Q v H1
def sFld (K : PySem.W.Frag) (ta tv : TE) (f : Str) : TS := fun D σ H => tv σ H fun y H1 => ta σ H1 fun x H2 => ∃ a C dx fs, x = .ref a ∧ H2 a = some (.ins C dx fs) ∧ Cls K C ∧ NoAttr K C f ∧ fs.length < 1000 ∧
  D.nx σ (upd H2 a (.ins C dx (putF f y fs)))
def InOp (X : Cx) (op : Operator) (rd : V → V → Hp → VK → Prop) : Prop :=
  ∀ (pins : List (Addr × Obj)) (s : Shared) (σ : St) (H : Hp) (x y : V) (u v : Value) (Q : VK), Inv X pins σ H s → RelV x u → RelV y v → rd x y H Q → wpAny (model X.prog X.w) X.A (inplaceOp op u v) (EP X pins σ Q) X.xe s
def sFldAug (K : PySem.W.Frag) (ta tv : TE) (rd : V → V → Hp → VK → Prop) (f : Str) : TS := fun D σ H => ta σ H fun x H1 => ∃ a C dx fs v, x = .ref a ∧ H1 a = some (.ins C dx fs) ∧ Cls K C ∧ NoAttr K C f ∧ fs.lookup f = some v ∧
  tv σ H1 fun y H2 => rd v y H2 fun z H3 => ∃ dx' fs', H3 a = some (.ins C dx' fs') ∧ fs'.length < 1000 ∧ D.nx σ (upd H3 a (.ins C dx' (putF f z fs')))
section
variable {X : Cx} {o e value : Expr} {f : Str} {pos pos' tpos : Pos} {ta tv : TE}
theorem pe_fld (he : PE X e ta) (hb : attributeBase e f X.env (eval e X.env) = eval e X.env) : PE X (.Attribute e f pos) (tFld X.K ta f) := by
  intro pins s σ H Q I h
  refine attr_of hb (thn (he pins s σ H _ I h) fun u s1 ⟨x, H1, I1, rx, a, C, dx, fs, v, ex, ea, c, n, l, q⟩ => ?_)
  subst ex
  obtain rfl : u = Value.ref a := rx
  exact getattr_ok I1 ea c n l fun u' s2 I2 ru => ⟨v, H1, I2, ru, q⟩
theorem ps_fld (ha : PE X o ta) (hv : PE X value tv) (hs : swapsWith value (some (.Attribute o f pos')) pos.line X.env = pure false) : PS X (.Assign [.Attribute o f pos'] value pos) (sFld X.K ta tv f) := by
  intro pins s σ H D I h
  refine plainObj_wpAny_Assign_Attribute (thn (hv pins s σ H _ I h) fun u s1 ⟨y, H1, I1, ry, q⟩ => thn (ha pins s1 σ H1 _ I1 q) fun ov s2 ⟨x, H2, I2, rx, a, C, dx, fs, ex, ea, c, n, l, q2⟩ => ?_) hs
  subst ex
  obtain rfl : ov = Value.ref a := rx
  exact setattr_ok I2 ea c n l ry fun s3 I3 => ⟨σ, _, I3, q2⟩
theorem ps_fldaug {op : Operator} {rd : V → V → Hp → VK → Prop} (ha : PE X o ta) (hv : PE X value tv) (hop : InOp X op rd) : PS X (.AugAssign (.Attribute o f tpos) op value pos) (sFldAug X.K ta tv rd f) := by
  intro pins s σ H D I h
  refine wpAny_AugAssign_AttributeAny (thn (ha pins s σ H _ I h) fun ov s1 ⟨x, H1, I1, rx, a, C, dx, fs, v, ex, ea, c, n, l, q⟩ => ?_)
  subst ex
  obtain rfl : ov = Value.ref a := rx
  refine getattr_ok I1 ea c n l fun u s2 I2 ru => thn (hv pins s2 σ H1 _ I2 q) fun w3 s3 ⟨y, H2, I3, ry, q3⟩ => thn (hop pins s3 σ H2 v y u w3 _ I3 ru ry q3) fun w4 s4 ⟨z, H3, I4, rz, dx', fs', ea', l', q4⟩ => ?_
  exact setattr_ok I4 ea' c n l' rz fun s5 I5 => ⟨σ, _, I5, q4⟩
def rAdd : V → V → Hp → VK → Prop := fun x y H Q => ∃ i j, x = .int i ∧ y = .int j ∧ Q (.int (i + j)) H
theorem in_add : InOp X .Add rAdd := by
  rintro pins s σ H x y u v Q I rx ry ⟨i, j, rfl, rfl, q⟩
  obtain ⟨t, rfl⟩ := (show ∃ t, u = Value.int i t from rx)
  obtain ⟨t', rfl⟩ := (show ∃ t', v = Value.int j t' from ry)
  exact PyProof.Rows.iadd_int ⟨.int (i + j), H, I.tok _, ⟨_, rfl⟩, q⟩
end
section
variable {X : Cx} {pins : List (Addr × Obj)} {σ : St} {H : Hp} {s : Shared} {A : Around} {E : Value → Shared → Prop} {Q : Value → Shared → Prop} {c : Value} {b : Bool}
inductive TyOf (K : PySem.W.Frag) (H : Hp) : V → Value → Prop where
  | non : TyOf K H .non (.type "NoneType")
  | bl (x : Bool) : TyOf K H (.bl x) (.type "bool")
  | int (i : Int) : TyOf K H (.int i) (.type "int")
  | str (x : Str) : TyOf K H (.str x) (.type "str")
  | flt (x : UInt64) : TyOf K H (.flt x) (.type "float")
  | lst {a : Addr} {xs : List V} (e : H a = some (.lst xs)) : TyOf K H (.ref a) (.type "list")
  | frz {a : Addr} {o : Obj} {xs : List V} (e : H a = some (.frz o (.lst xs))) : TyOf K H (.ref a) (.type "list")
  | tup {a : Addr} {xs : List V} (e : H a = some (.tup xs)) : TyOf K H (.ref a) (.type "tuple")
  | dK {a : Addr} {kvs : List (Key × V)} (e : H a = some (.dK kvs)) : TyOf K H (.ref a) (.type "dict")
  | dT {a : Addr} {kvs : List (List Key × V)} (e : H a = some (.dT kvs)) : TyOf K H (.ref a) (.type "dict")
  | ins {a C dx : Addr} {fs : List (Str × V)} (e : H a = some (.ins C dx fs)) (cl : Cls K C) (ha : PySem.W.findIn K (.ref C) "__class__" = some (some (.builtin "object.__class__")))
      (hn : PySem.W.specialIn K (.builtin "object.__class__") "__get__" = some (some (.builtin "getset_descriptor.__get__"))) (htk : PySem.W.takesIn K (.builtin "object.__class__") = some true)
      (hm : PySem.W.mroIn K C (.type "object") = some true) : TyOf K H (.ref a) (.ref C)
theorem isinst_ok {x : V} {u t : Value} (I : Inv X pins σ H s) (rx : RelV x u) (ty : TyOf X.K H x t) (e : PySem.W.kitOne X.K t c = some b) (h : ∀ tk, Q (.bool b) { s with toks := tk }) :
    wpAny (model X.prog X.w) A (call (.builtin "isinstance") [u, c]) Q E s := by
  cases ty with
  | non => cases (show u = Value.none from rx); exact PySem.W.kia_one PySem.W.kitx_none I.kIn True.intro e (fun z => nomatch z) h
  | bl y => cases (show u = Value.bool y from rx); exact PySem.W.kia_one PySem.W.kitx_bool I.kIn True.intro e (fun z => nomatch z) h
  | int i => obtain ⟨t, q⟩ := (show ∃ t, u = Value.int i t from rx); cases q; exact PySem.W.kia_one PySem.W.kitx_int I.kIn True.intro e (fun z => nomatch z) h
  | str y => obtain ⟨t, q⟩ := (show ∃ t, u = Value.str y t from rx); cases q; exact PySem.W.kia_one PySem.W.kitx_str I.kIn True.intro e (fun z => nomatch z) h
  | flt y => obtain ⟨t, q⟩ := (show ∃ t, u = Value.float y t from rx); cases q; exact PySem.W.kia_one PySem.W.kitx_float I.kIn True.intro e (fun z => nomatch z) h
  | @lst a xs ea =>
    cases (show u = Value.ref a from rx)
    obtain ⟨_, _, n, _, h1⟩ := (show ObjOk X.prog X.w H s.heap a (.lst xs) from I.hok a _ ea)
    exact PySem.W.kia_one PySem.W.kitx_list I.kIn ⟨_, h1, rfl⟩ e (fun z => nomatch z) h
  | @frz a ob xs ea =>
    cases (show u = Value.ref a from rx)
    obtain ⟨_, _, _, n, _, h1⟩ := (show ObjOk X.prog X.w H s.heap a (.frz ob (.lst xs)) from I.hok a _ ea)
    exact PySem.W.kia_one PySem.W.kitx_list I.kIn ⟨_, h1, rfl⟩ e (fun z => nomatch z) h
  | @tup a xs ea =>
    cases (show u = Value.ref a from rx)
    obtain ⟨_, _, _, p⟩ := (show ObjOk X.prog X.w H s.heap a (.tup xs) from I.hok a _ ea)
    obtain ⟨o, h1, h2, _⟩ := p
    exact PySem.W.kia_one PySem.W.kitx_tuple I.kIn ⟨o, h1, h2⟩ e (fun z => nomatch z) h
  | @dK a kvs ea =>
    cases (show u = Value.ref a from rx)
    obtain ⟨_, _, vs, _, p⟩ := (show ObjOk X.prog X.w H s.heap a (.dK kvs) from I.hok a _ ea)
    obtain ⟨o, es, ep, h1, h2, _⟩ := p
    exact PySem.W.kia_one PySem.W.kitx_dict I.kIn ⟨o, h1, h2.1⟩ e (fun z => nomatch z) h
  | @dT a kvs ea =>
    cases (show u = Value.ref a from rx)
    obtain ⟨_, _, xs, _, o, es, ep, h1, h2, _⟩ := (show ObjOk X.prog X.w H s.heap a (.dT kvs) from I.hok a _ ea)
    exact PySem.W.kia_one PySem.W.kitx_dict I.kIn ⟨o, h1, h2.1⟩ e (fun z => nomatch z) h
  | @ins a C dx fs ea cl ha hn htk hm =>
    cases (show u = Value.ref a from rx)
    obtain ⟨mA, O, _⟩ := ins_get I.hok ea
    obtain ⟨od, J, _⟩ := O.look
    exact PySem.W.kia_one (PySem.W.kitx_own (cl.get _) cl.hd ha hn htk hm) I.kIn J e (fun z => nomatch z) h
end
end L2
namespace L2
open PySem PySem.Spec PyProof.Rows
structure Room (k : Nat) (A : Around) : Prop where
  hd : A.handled = none
  dp : A.depth + 3 * k + 5 < recursionLimit
  un : A.units + 16 * k + 200 < cLine
theorem make_depth {A : Around} {C : Addr} {us : List Value} {kw : List (Str × Value)} : (A.under (.builtin "type.__call__" ⟨.ref C :: us, kw⟩)).depth = A.depth + 1 := by
  first | rfl | simp [Around.under, Code.weight, Code.isCreation, Code.isGuard, Code.isCaller, Code.frames, Code.isFrame, guardIds]
theorem make_units {A : Around} {C : Addr} {us : List Value} {kw : List (Str × Value)} : (A.under (.builtin "type.__call__" ⟨.ref C :: us, kw⟩)).units = A.units + 1 := by
  first | rfl | simp [Around.under, Code.cUnits, Code.frames, Code.isFrame]
theorem Room.make {k : Nat} {A : Around} (r : Room (k + 1) A) (C : Addr) (us : List Value) (kw : List (Str × Value)) : Room k (A.under (.builtin "type.__call__" ⟨.ref C :: us, kw⟩)) :=
  ⟨r.hd, by have := r.dp; rw [make_depth]; omega, by have := r.un; rw [make_units]; omega⟩
def tNil : TA := fun _ H Q => Q [] H
def tCons (ta : TE) (tr : TA) : TA := fun σ H Q => ta σ H fun x H1 => tr σ H1 fun xs H2 => Q (x :: xs) H2
section
variable {X : Cx} {e : Expr} {es : List Expr} {te : TE} {t : TA} {pos : Pos}
theorem pa_nil : PA X [] tNil := fun _ _ _ _ H Q I h => Calls.spliced_nil ⟨[], H, I, .nil, h⟩
theorem pa_cons (ha : PE X e te) (hr : PA X es t) (hs : starEach (e :: es) X.env = (false, eval e X.env) :: starEach es X.env := by rfl) : PA X (e :: es) (tCons te t) := by
  intro pos pins s σ H Q I h
  rw [hs]
  show wpAny _ _ (spliced ((false, eval e X.env) :: backTo pos (starEach es X.env))) _ _ s
  refine Calls.spliced_cons (thn (ha pins s σ H _ I h) fun u s1 ⟨x, H1, I1, r1, q1⟩ => ?_)
  exact thn (hr pos pins s1 σ H1 _ I1 q1) fun us s2 ⟨xs, H2, I2, r2, q2⟩ => ⟨x :: xs, H2, I2, .cons r1 r2, q2⟩
def tTup (t : TA) : TE := fun σ H Q => t σ H fun xs H1 => xs.length ≤ sizeLine ∧ ∀ p, H1 p = none → Q (.ref p) (upd H1 p (.tup xs))
def tLst (t : TA) : TE := fun σ H Q => t σ H fun xs H1 => xs.length ≤ sizeLine ∧ ∀ p, H1 p = none → Q (.ref p) (upd H1 p (.lst xs))
theorem pe_tup {x1} (h : PA X es t) : PE X (.Tuple es x1 pos) (tTup t) := by
  intro pins s σ H Q I hq
  refine wpAny_Tuple_spliced (thn (h pos pins s σ H _ I hq) fun us s1 ⟨xs, H1, I1, r, z, q⟩ => ⟨by rw [← r.length]; exact z, ?_⟩)
  have hf : H1 s1.heap.objs.size = none := I1.hok.fresh (Nat.le_refl _)
  refine ⟨.ref s1.heap.objs.size, upd H1 s1.heap.objs.size (.tup xs), I1.laid (t' := s1.toks) (fun b u e => Heap.get?_push_of_some _ e) (Nat.le_refl _) ?_, rfl, q _ hf⟩
  exact ⟨z, us, r, ⟨_, Heap.get?_push_size _ rfl, rfl, _, rfl⟩⟩
theorem pe_lst (h : PA X es t) : PE X (.List es pos) (tLst t) := by
  intro pins s σ H Q I hq
  refine wpAny_List_spliced (thn (h pos pins s σ H _ I hq) fun us s1 ⟨xs, H1, I1, r, z, q⟩ => ⟨by rw [← r.length]; exact z, ?_⟩)
  have hf : H1 s1.heap.objs.size = none := I1.hok.fresh (Nat.le_refl _)
  refine ⟨.ref s1.heap.objs.size, upd H1 s1.heap.objs.size (.lst xs), I1.laid (t' := s1.toks) (fun b u e => Heap.get?_push_of_some _ e) (Nat.le_refl _) ?_, rfl, q _ hf⟩
  exact ⟨z, us, 0, r, Heap.get?_push_size _ rfl⟩
end
abbrev Sp := List V → Hp → VK → XK → Prop
abbrev CXT := List Env → Hp → Shared → XK → Value → Shared → Prop
structure Env0 (P : Program) (w : World) (K : PySem.W.Frag) (mg : Str → Option Value) (base : Heap) (A : Around) (outer : List Env) (s : Shared) (H : Hp) : Prop where
  frames : A.frames = some outer
  mod : Mod K mg base
  bs : ∀ b o, base.get? b = some o → s.heap.get? b = some o ∧ H b = none
  bsz : base.objs.size ≤ s.heap.objs.size
  funs : s.heap.FunFrames base outer
  frf : ∀ b ∈ frs outer, H b = none
  hok : HOk P w H s.heap
  bare : AllBare s.gens
def CE (outer : List Env) (P : Program) (w : World) (H : Hp) (s : Shared) (Q : VK) (u : Value) (s' : Shared) : Prop :=
  ∃ v H', s'.os = s.os ∧ AllBare s'.gens ∧ Un (frs outer) [] H H' s.heap s'.heap ∧ HOk P w H' s'.heap ∧ RelV v u ∧ Q v H'
def CR (CX : CXT) (outer : List Env) (P : Program) (w : World) (H : Hp) (s : Shared) (Q : VK) (E : XK) (r : Result) (s' : Shared) : Prop :=
  match r with
  | .ok (.ret u) => CE outer P w H s Q u s'
  | .ok _ => False
  | .error e => CX outer H s E e s'
structure FnOk (P : Program) (w : World) (K : PySem.W.Frag) (mg : Str → Option Value) (base : Heap) (CX : CXT) (k : Nat) (f : Addr) (fd : FuncData) (ps : List Str) (sp : Sp) : Prop where
  len : ∀ vs H Q E, sp vs H Q E → vs.length = ps.length
  run : ∀ (A : Around) (outer : List Env) (s : Shared) (H : Hp) (args : Args) (us : List Value) (vs : List V) (Q : VK) (E : XK), Room k A → Env0 P w K mg base A outer s H → BindsTo s fd args (ps.zip us) → Vals vs us → sp vs H Q E →
    codeAny (model P w) A (.call (.ref f) args) (CR CX outer P w H s Q E) s
theorem Env0.make {P : Program} {w : World} {K : PySem.W.Frag} {mg : Str → Option Value} {base : Heap} {A : Around} {outer : List Env} {s : Shared} {H : Hp} (e : Env0 P w K mg base A outer s H) (C : Addr) (us : List Value) (kw : List (Str × Value)) :
    Env0 P w K mg base (A.under (.builtin "type.__call__" ⟨.ref C :: us, kw⟩)) outer s H := ⟨by first | exact e.frames | (simpa [Around.under, Code.envs, Code.isFrame, pushEnvs] using e.frames), e.mod, e.bs, e.bsz, e.funs, e.frf, e.hok, e.bare⟩
section
variable {X : Cx} {pins : List (Addr × Obj)} {σ : St} {H : Hp} {s s' : Shared}
theorem Inv.env0 (I : Inv X pins σ H s) : Env0 X.prog X.w X.K X.mg X.base X.A X.stack s H :=
  ⟨I.ok.frames, I.ok.mod, I.bs, Nat.le_trans I.ok.bsz I.sz, I.stack, I.stkFree, I.hok, I.bare⟩
theorem Inv.after {Q : VK} {u : Value} (I : Inv X pins σ H s) (h : CE X.stack X.prog X.w H s Q u s') : EP X pins σ Q u s' := by
  obtain ⟨v, H', os, bare, un, hok, r, q⟩ := h
  obtain ⟨hh, g, d, t, os'⟩ := s'
  obtain rfl : os' = s.os := os
  exact ⟨v, H', I.call (h' := hh) (g' := g) (d' := d) (t' := t) (ch := []) un hok bare (fun b z => absurd z (by simp)), r, q⟩
end
def tCall (sp : Sp) (dvs : List V) (E : XK) (t : TA) : TE := fun σ H Q => t σ H fun vs H1 => sp (vs ++ dvs) H1 Q E
def tMake (C : Addr) (sp : Sp) (dvs : List V) (E : XK) (t : TA) : TE := fun σ H Q => t σ H fun vs H1 => ∀ x dx, H1 x = none → H1 dx = none → dx ≠ x →
  sp (.ref x :: (vs ++ dvs)) (upd (upd H1 dx (.own x)) x (.ins C dx [])) (fun v H2 => v = .non ∧ Q (.ref x) H2) E
def Binds (K : PySem.W.Frag) (fd : FuncData) (ps : List Str) (ds : List Value) : Prop :=
  ∀ (s : Shared) (us : List Value), K.In s.heap → (us ++ ds).length = ps.length → BindsTo s fd ⟨us, []⟩ (ps.zip (us ++ ds))
theorem Binds.all {K : PySem.W.Frag} {fd : FuncData} {ps : List Str} (h : ∀ us : List Value, us.length = ps.length → bindArgs fd ⟨us, []⟩ = pure (ps.zip us)) : Binds K fd ps [] := fun s us _ hl => by
  rw [List.append_nil] at hl ⊢
  exact .of_eq (h us hl)
def Passes (CX : CXT) (X : Cx) (E : XK) : Prop := ∀ (pins : List (Addr × Obj)) (σ : St) (H : Hp) (s : Shared) (e : Value) (s' : Shared), Inv X pins σ H s → CX X.stack H s E e s' → X.xe e s'
section
variable {X : Cx} {CX : CXT} {k : Nat} {f C : Addr} {fd : FuncData} {ps : List Str} {sp : Sp} {dvs : List V} {ds : List Value} {E : XK} {x m : Str} {p pos apos : Pos} {e o : Expr} {es : List Expr} {ta : TE} {t : TA}
theorem run_fn {pins : List (Addr × Obj)} {σ : St} {H : Hp} {s : Shared} {Q : VK} {us : List Value} {vs : List V} (F : FnOk X.prog X.w X.K X.mg X.base CX k f fd ps sp) (hr : Room k X.A) (hb : Binds X.K fd ps ds) (hd : Vals dvs ds) (hx : Passes CX X E)
    (I : Inv X pins σ H s) (r : Vals vs us) (h : sp (vs ++ dvs) H Q E) : wpAny (model X.prog X.w) X.A (call (.ref f) us) (EP X pins σ Q) X.xe s := by
  have r2 : Vals (vs ++ dvs) (us ++ ds) := r.append hd
  have hl : (us ++ ds).length = ps.length := by rw [← r2.length]; exact F.len _ _ _ _ h
  refine wpAny_call (codeAny_mono (F.run X.A X.stack s H ⟨us, []⟩ (us ++ ds) (vs ++ dvs) Q E hr I.env0 (hb s us I.kIn hl) r2 h) fun r s' hq => ?_)
  cases r with
  | error e => exact hx pins σ H s e s' I hq
  | ok fl =>
    cases fl with
    | ret u => exact I.after hq
    | next => exact False.elim hq
    | brk => exact False.elim hq
    | cont => exact False.elim hq
structure Mk (K : PySem.W.Frag) (C f : Addr) : Prop where
  makes : PySem.W.makesIn K C = true
  init : PySem.W.findIn K (.ref C) "__init__" = some (some (.ref f))
  fn : PySem.W.isFn K (.ref f) = true
  kp : PySem.W.keepIn K (.ref C) = true
theorem run_make {pins : List (Addr × Obj)} {σ : St} {H : Hp} {s : Shared} {Q : VK} {us : List Value} {vs : List V} (M : Mk X.K C f) (F : FnOk X.prog X.w X.K X.mg X.base CX k f fd ps sp) (hr : Room (k + 1) X.A) (hb : Binds X.K fd ps ds) (hd : Vals dvs ds)
    (hx : Passes CX X E) (I : Inv X pins σ H s) (r : Vals vs us)
    (h : ∀ x dx, H x = none → H dx = none → dx ≠ x → sp (.ref x :: (vs ++ dvs)) (upd (upd H dx (.own x)) x (.ins C dx [])) (fun v H2 => v = .non ∧ Q (.ref x) H2) E) :
    wpAny (model X.prog X.w) X.A (call (.ref C) us) (EP X pins σ Q) X.xe s := by
  have hq := h (s.heap.objs.size + 1) s.heap.objs.size (I.hok.fresh (Nat.le_succ _)) (I.hok.fresh (Nat.le_refl _)) (Nat.ne_of_lt (Nat.lt_succ_self _))
  have I2 := Inv.made (C := C) I
  have r2 : Vals (V.ref (s.heap.objs.size + 1) :: (vs ++ dvs)) (Value.ref (s.heap.objs.size + 1) :: (us ++ ds)) := .cons rfl (r.append hd)
  have hl : (Value.ref (s.heap.objs.size + 1) :: us ++ ds).length = ps.length := by
    have e := r2.length
    rw [F.len _ _ _ _ hq] at e
    exact e.symm
  refine wpAny_call (make_map (f := f) I.kIn M.makes M.init (beq_iff_eq.mp M.fn) (codeAny_mono (F.run _ X.stack _ _ ⟨Value.ref (s.heap.objs.size + 1) :: us, []⟩ (Value.ref (s.heap.objs.size + 1) :: (us ++ ds)) _ _ E (hr.make C us [])
    (I2.env0.make C us []) (hb _ (Value.ref (s.heap.objs.size + 1) :: us) I2.kIn hl) r2 hq) fun r s' hq' => ?_))
  cases r with
  | error e => exact hx pins σ _ _ e s' I2 hq'
  | ok fl =>
    cases fl with
    | ret u =>
      obtain ⟨v, H', I3, rv, ev, q3⟩ := I2.after hq'
      subst ev
      exact ⟨rv, ⟨V.ref (s.heap.objs.size + 1), H', I3, rfl, q3⟩⟩
    | next => exact False.elim hq'
    | brk => exact False.elim hq'
    | cont => exact False.elim hq'
theorem pe_make (M : Mk X.K C f) (F : FnOk X.prog X.w X.K X.mg X.base CX k f fd ps sp) (hr : Room (k + 1) X.A) (hg : Gl X x) (hm : X.mg x = some (.ref C)) (hb : Binds X.K fd ps ds) (hd : Vals dvs ds) (hx : Passes CX X E)
    (ha : PA X (e :: es) t) (hdb : (x == ("__debug__" : Str)) = false := by decide) (he : starEach (e :: es) X.env = (false, eval e X.env) :: starEach es X.env := by rfl) (hpl : (backTo pos (starEach es X.env)).any (·.1) = false := by rfl) :
    PE X (.Call (.Name x p) (e :: es) [] pos) (tMake C sp dvs E t) := by
  intro pins s σ H Q I h
  refine wpAny_Call_Name_kw (ld_glob I hg hm ?_ hdb)
  refine PySem.W.callWith_K (h₀ := X.base) I.ok.mod.kin M.kp (thn (ha pos pins s σ H _ I h) fun us s1 ⟨vs, H1, I1, r, q⟩ => ⟨I1.kIn, ?_⟩) he hpl
  exact run_make M F hr hb hd hx I1 r q
theorem pe_make0 (M : Mk X.K C f) (F : FnOk X.prog X.w X.K X.mg X.base CX k f fd ps sp) (hr : Room (k + 1) X.A) (hg : Gl X x) (hm : X.mg x = some (.ref C)) (hb : Binds X.K fd ps ds) (hd : Vals dvs ds) (hx : Passes CX X E)
    (hdb : (x == ("__debug__" : Str)) = false := by decide) : PE X (.Call (.Name x p) [] [] pos) (tMake C sp dvs E tNil) := by
  intro pins s σ H Q I h
  refine wpAny_Call_Name_kw (ld_glob I hg hm ?_ hdb)
  exact PySem.W.callWith_K0 I.kIn M.kp (run_make (us := []) M F hr hb hd hx I .nil h)
end
structure FnScope (N P : List Str) (sc : Scope) : Prop where
  kind : sc.kind = .function
  co : sc.isCoroutine = false
  gen : sc.isGenerator = false
  nd : N.Nodup
  pre : N.take P.length = P
  par : ∀ x ∈ P, sc.names.lookup x = some .local ∨ sc.names.lookup x = some .cell
  nofree : ∀ y ∈ sc.names, y.2 ≠ .free
theorem bindL_out {kindOf : Str → Option NameKind} {x : Str} : ∀ {binds : List (Str × Value)} {m : Str → Option Value}, (∀ v, (x, v) ∉ binds) → bindL kindOf binds m x = m x
  | [], _, _ => rfl
  | (n, v) :: r, m, h => by
    unfold bindL
    rw [bindL_out fun w hw => h w (List.mem_cons_of_mem _ hw)]
    split
    · have : x ≠ n := by rintro rfl; exact h v List.mem_cons_self
      simp [this]
    · rfl
theorem bindC_out {kindOf : Str → Option NameKind} {x : Str} : ∀ {binds : List (Str × Value)} {m : Str → Option Value}, (∀ v, (x, v) ∉ binds) → bindC kindOf binds m x = m x
  | [], _, _ => rfl
  | (n, v) :: r, m, h => by
    unfold bindC
    rw [bindC_out fun w hw => h w (List.mem_cons_of_mem _ hw)]
    split
    · rfl
    · have : x ≠ n := by rintro rfl; exact h v List.mem_cons_self
      simp [this]
theorem bindL_get {kindOf : Str → Option NameKind} {x : Str} {v : Value} : ∀ {P : List Str} {vs : List Value} {i : Nat} {m : Str → Option Value}, P.Nodup → P[i]? = some x → vs[i]? = some v → kindOf x = some .local →
    bindL kindOf (P.zip vs) m x = some v
  | [], _, _, _, _, h, _, _ => by simp at h
  | _ :: _, [], _, _, _, _, h, _ => by simp at h
  | p :: P, w :: vs, 0, m, nd, h1, h2, hk => by
    simp at h1 h2; subst h1; subst h2
    show bindL kindOf ((p, w) :: P.zip vs) m p = _
    unfold bindL
    rw [bindL_out fun v hv => (List.nodup_cons.mp nd).1 (List.of_mem_zip hv).1, if_pos hk]
    simp
  | p :: P, w :: vs, i + 1, m, nd, h1, h2, hk => by
    show bindL kindOf ((p, w) :: P.zip vs) m x = _
    unfold bindL
    exact bindL_get (i := i) (List.nodup_cons.mp nd).2 (by simpa using h1) (by simpa using h2) hk
theorem bindC_get {kindOf : Str → Option NameKind} {x : Str} {v : Value} : ∀ {P : List Str} {vs : List Value} {i : Nat} {m : Str → Option Value}, P.Nodup → P[i]? = some x → vs[i]? = some v → kindOf x ≠ some .local →
    bindC kindOf (P.zip vs) m x = some v
  | [], _, _, _, _, h, _, _ => by simp at h
  | _ :: _, [], _, _, _, _, h, _ => by simp at h
  | p :: P, w :: vs, 0, m, nd, h1, h2, hk => by
    simp at h1 h2; subst h1; subst h2
    show bindC kindOf ((p, w) :: P.zip vs) m p = _
    unfold bindC
    rw [bindC_out fun v hv => (List.nodup_cons.mp nd).1 (List.of_mem_zip hv).1, if_neg hk]
    simp
  | p :: P, w :: vs, i + 1, m, nd, h1, h2, hk => by
    show bindC kindOf ((p, w) :: P.zip vs) m x = _
    unfold bindC
    exact bindC_get (i := i) (List.nodup_cons.mp nd).2 (by simpa using h1) (by simpa using h2) hk
def start (N : List Str) (vs : List V) : St := vs.map some ++ List.replicate (N.length - vs.length) none
def cxOf (CX : CXT) (P : Program) (w : World) (K : PySem.W.Frag) (mg : Str → Option Value) (base : Heap) (N : List Str) (qual : Str) (scope : Scope) (f : Addr) (cd : Value) (A : Around) (outer : List Env) (s : Shared) (H : Hp) (E : XK) : Cx where
  prog := P
  w := w
  K := K
  mg := mg
  base := base
  A := A.deeper (envOfC qual scope s.heap.objs.size f cd)
  N := N
  s₀ := s
  H₀ := H
  env := envOfC qual scope s.heap.objs.size f cd
  outer := outer
  stack := envOfC qual scope s.heap.objs.size f cd :: outer
  ex := []
  calm := true
  fn := fun _ => true
  pn := []
  xe := fun e s' => wpAny (model P w) (A.deeper (envOfC qual scope s.heap.objs.size f cd)) (leaving (envOfC qual scope s.heap.objs.size f cd) e) (fun _ s'' => CX outer H s E e s'') (fun e' s'' => CX outer H s E e' s'') s'
theorem cell_has {sc : Scope} {n : Nat} {x : Str} (h : sc.names.lookup x = some .cell) : ∃ c, (cellsFrom n sc.names []).lookup x = some c := by
  have q := PySem.W.cellsFrom_some sc.names n [] (.inl h)
  exact Option.isSome_iff_exists.mp q
end L2
namespace L2
open PySem PySem.Spec PyProof.Rows
section
variable {X : Cx} {x : Str} {p pos : Pos} {e : Expr} {es : List Expr} {t : TA} {id T : String} {r : List V → Hp → VK → Prop}
def tCB (r : List V → Hp → VK → Prop) (t : TA) : TE := fun σ H Q => t σ H fun vs H1 => r vs H1 Q
theorem pe_callB (hc : CallR X (.builtin id) r) (hg : Gl X x) (hm : X.mg x = none) (hv : bootBuiltins x = some (.builtin id)) (ha : PA X (e :: es) t) (hn : x ≠ "__name__" := by decide) (hdb : (x == ("__debug__" : Str)) = false := by decide)
    (he : starEach (e :: es) X.env = (false, eval e X.env) :: starEach es X.env := by rfl) (hpl : (backTo pos (starEach es X.env)).any (·.1) = false := by rfl) : PE X (.Call (.Name x p) (e :: es) [] pos) (tCB r t) := by
  intro pins s σ H Q I h
  refine wpAny_Call_Name_kw (ld_blt I hg hm hv ?_ hn hdb)
  exact PyProof.Rows.callWith_builtin1 (thn (ha pos pins s σ H _ I h) fun us s1 ⟨vs, H1, I1, r1, q1⟩ => hc pins s1 σ H1 vs us Q I1 r1 q1) he hpl
theorem pe_callTy (hc : CallR X (.type T) r) (hg : Gl X x) (hm : X.mg x = none) (hv : bootBuiltins x = some (.type T)) (ha : PA X (e :: es) t) (hn : x ≠ "__name__" := by decide) (hdb : (x == ("__debug__" : Str)) = false := by decide)
    (he : starEach (e :: es) X.env = (false, eval e X.env) :: starEach es X.env := by rfl) (hpl : (backTo pos (starEach es X.env)).any (·.1) = false := by rfl) : PE X (.Call (.Name x p) (e :: es) [] pos) (tCB r t) := by
  intro pins s σ H Q I h
  refine wpAny_Call_Name_kw (ld_blt I hg hm hv ?_ hn hdb)
  exact PyProof.Rows.callWith_type1 (thn (ha pos pins s σ H _ I h) fun us s1 ⟨vs, H1, I1, r1, q1⟩ => hc pins s1 σ H1 vs us Q I1 r1 q1) he hpl
end
end L2
namespace HT
open PySem PyProof.Rows
section
variable {prog : Program} {w : World} {A : Around} {E : Value → Shared → Prop} {s : Shared}
def sIx (n d : Nat) : Option Int → Nat
  | none => d
  | some v => if v < 0 then (v + (n : Int)).toNat else min v.toNat n
theorem sIx_none (n d : Nat) : sIx n d none = d := rfl
theorem sIx_nat (n d k : Nat) : sIx n d (some (k : Int)) = min k n := by
  show (if (k : Int) < 0 then ((k : Int) + (n : Int)).toNat else min (k : Int).toNat n) = min k n
  rw [if_neg (by omega), Int.toNat_natCast]
theorem sIx_le (n d : Nat) (hd : d ≤ n) (o : Option Int) : sIx n d o ≤ n := by
  cases o with
  | none => exact hd
  | some v =>
    show (if v < 0 then (v + (n : Int)).toNat else min v.toNat n) ≤ n
    by_cases hv : v < 0
    · rw [if_pos hv]; omega
    · rw [if_neg hv]; exact Nat.min_le_right _ _
theorem clip_eq (v : Int) (n d : Nat) : (if v < 0 then max (v + (n : Int)) 0 else min v (n : Int)) = ((sIx n d (some v) : Nat) : Int) := by
  show (if v < 0 then max (v + (n : Int)) 0 else min v (n : Int)) = (((if v < 0 then (v + (n : Int)).toNat else min v.toNat n) : Nat) : Int)
  by_cases hv : v < 0
  · simp only [if_pos hv]; omega
  · simp only [if_neg hv]; omega
theorem adjust_gen (lo hi : Option Int) (n : Nat) : Builtin.Slice.sliceAdjust lo hi 1 (n : Int) = (((sIx n 0 lo : Nat) : Int), ((sIx n n hi : Nat) : Int)) := by
  have h1 : ¬ ((1 : Int) < 0) := by omega
  unfold Builtin.Slice.sliceAdjust
  simp only [h1, if_false]
  refine Prod.ext ?_ ?_
  · cases lo with
    | none => rfl
    | some v => exact clip_eq v n 0
  · cases hi with
    | none => rfl
    | some v => exact clip_eq v n n
theorem places_gen (i j : Nat) : Builtin.Slice.slicePlaces (i : Int) (j : Int) 1 = j - i := by
  unfold Builtin.Slice.slicePlaces
  have h1 : (1 : Int) > 0 := by omega
  simp only [h1, if_true, Int.ediv_one]
  split <;> omega
theorem slicePart_ {v : Value} {o : Option Int} {Q : Option Int → Shared → Prop} (p : IsPart v o) (h : Q o s) : wpAny (model prog w) A (Builtin.Slice.slicePartIndex v) Q E s := by
  cases p with
  | none => exact slicePart_none h
  | int i t => exact slicePart_int h
theorem sliceApplied_gen {sl : Addr} {vl vu : Value} {lo hi : Option Int} {n : Nat} {Q : Int × Int × Nat → Shared → Prop} (hs : s.heap.IsSliceOf sl vl vu .none) (pl : IsPart vl lo) (pu : IsPart vu hi)
    (h : Q (((sIx n 0 lo : Nat) : Int), 1, sIx n n hi - sIx n 0 lo) s) : wpAny (model prog w) A (Builtin.Slice.sliceApplied (.ref sl) (pure (n : Int))) Q E s := by
  obtain ⟨os, hos, hcs, hds⟩ := id hs
  unfold Builtin.Slice.sliceApplied Builtin.Slice.sliceFields
  refine wpAny_bind (wpAny_bind (wpAny_field hos hds (x := vl) rfl (wpAny_bind (wpAny_field hos hds (x := vu) rfl (wpAny_bind (wpAny_field hos hds (x := .none) rfl (wpAny_pure ?_)))))))
  refine wpAny_bind (slicePart_none ?_)
  show wpAny _ _ (if ((1 : Int) == 0) = true then _ else _) _ _ s
  rw [if_neg (by decide)]
  refine wpAny_bind (slicePart_ pl (wpAny_bind (slicePart_ pu (wpAny_bind (wpAny_pure ?_)))))
  show wpAny _ _ (match Builtin.Slice.sliceAdjust lo hi 1 (n : Int) with | (lo, hi) => pure (lo, (1 : Int), Builtin.Slice.slicePlaces lo hi 1)) _ _ s
  rw [adjust_gen lo hi n]
  show wpAny _ _ (pure (((sIx n 0 lo : Nat) : Int), (1 : Int), Builtin.Slice.slicePlaces ((sIx n 0 lo : Nat) : Int) ((sIx n n hi : Nat) : Int) 1)) _ _ s
  rw [places_gen]
  exact wpAny_pure h
theorem pick_gen (xs : Array Value) (i k : Nat) : ((List.range k).filterMap fun (m : Nat) => xs[((i : Int) + (m : Int) * 1).toNat]?).toArray = ((xs.toList.drop i).take k).toArray := by
  have e : (fun (m : Nat) => xs[((i : Int) + (m : Int) * 1).toNat]?) = fun m => xs[i + m]? := by
    funext m
    have : ((i : Int) + (m : Int) * 1).toNat = i + m := by omega
    rw [this]
  rw [e]
  have := pick_run xs i k
  rw [List.filterMap_map] at this
  have e2 : ((fun x => xs[x]?) ∘ fun x => i + x) = fun m => xs[i + m]? := rfl
  rw [e2] at this
  rw [this]
theorem getItem_tuple_cut {t sl : Addr} {items : Array Value} {vl vu : Value} {lo hi : Option Int} {Q : Value → Shared → Prop} (ht : IsTup s.heap t items) (hs : s.heap.IsSliceOf sl vl vu .none) (pl : IsPart vl lo) (pu : IsPart vu hi)
    (hw : ¬ (sIx items.size 0 lo = 0 ∧ sIx items.size items.size hi = items.size))
    (h : Q (.ref s.heap.objs.size) { s with heap := s.heap.push { cls := .type "tuple", data := .seq ((items.toList.drop (sIx items.size 0 lo)).take (sIx items.size items.size hi - sIx items.size 0 lo)).toArray } })
    (hsz : items.size ≤ sizeLine) : wpAny (model prog w) A (getItem (.ref t) (.ref sl)) Q E s := by
  have htake : sizeOk (.seq ((items.toList.drop (sIx items.size 0 lo)).take (sIx items.size items.size hi - sIx items.size 0 lo)).toArray) := by
    show ((items.toList.drop (sIx items.size 0 lo)).take (sIx items.size items.size hi - sIx items.size 0 lo)).toArray.size ≤ sizeLine
    rw [List.size_toArray, List.length_take, List.length_drop, Array.length_toList]
    omega
  have hj : sIx items.size items.size hi ≤ items.size := sIx_le _ _ (Nat.le_refl _) hi
  obtain ⟨os, hos, hcs, hds⟩ := id hs
  have hTs : s.TypeIs (.ref sl) "slice" := ⟨os, hos, hcs⟩
  unfold getItem
  try with_reducible refine wpAny_holding ?_
  first | refine wpAny_bind (wpAny_pure ?_) | skip
  refine wpAny_bind (wpAny_sequenceKey ht.typeIs (by decide) ?_)
  refine wpAny_bind (wpAny_callSpecial?_slot (name := Str.ofString "__getitem__") ht.typeIs PyProof.Rows.slot_tuple_getitem
    (wpAny_call_entry PyProof.Rows.slot_tuple_getitem ht.typeIs entry_tuple_getitem ?_ (args_tuple_getitem _ _)))
  show wpAny _ _ (Builtin.Tuple.tupleItemsOf (.ref t) >>= _) _ _ s
  refine wpAny_bind (tupleItemsOf_ ht ?_)
  refine wpAny_bind (wpAny_typeOf hTs ?_)
  rw [if_pos (by decide)]
  refine wpAny_bind (sliceApplied_gen hs pl pu ?_)
  have hno : ¬ ((((sIx items.size 0 lo : Nat) : Int) == 0 && (1 : Int) == 1 && (sIx items.size items.size hi - sIx items.size 0 lo) == items.size) = true) := by
    intro q
    rw [Bool.and_eq_true, Bool.and_eq_true] at q
    have q1 : ((sIx items.size 0 lo : Nat) : Int) = 0 := eq_of_beq q.1.1
    have q2 : sIx items.size items.size hi - sIx items.size 0 lo = items.size := eq_of_beq q.2
    exact hw ⟨by omega, by omega⟩
  show wpAny _ _ (if (((sIx items.size 0 lo : Nat) : Int) == 0 && (1 : Int) == 1 && (sIx items.size items.size hi - sIx items.size 0 lo) == items.size) = true then _ else _) _ _ s
  rw [if_neg hno, pick_gen]
  first
    | exact wpAny_bind (m := Builtin.Tuple.tupleExact _) (wpAny_newObj_type (wpAny_pure ⟨_, rfl, wpAny_pure h⟩) htake)
    | exact wpAny_bind (m := Builtin.Tuple.tupleExact _) (wpAny_newObj_type (wpAny_bind (wpAny_pure (wpAny_pure ⟨_, rfl, wpAny_pure h⟩))) htake)
    | exact wpAny_bind (wpAny_bind (m := Builtin.Tuple.tupleExact _) (wpAny_newObj_type (wpAny_pure (wpAny_pure ⟨_, rfl, wpAny_pure h⟩)) htake))
    | exact wpAny_bind (wpAny_bind (m := Builtin.Tuple.tupleExact _) (wpAny_newObj_type (wpAny_pure ⟨_, rfl, wpAny_pure h⟩) htake))
end
end HT
namespace L2
open PySem PySem.Spec PyProof.Rows
abbrev TO := St → Hp → (Option Int → Hp → Prop) → Prop
def PO (X : Cx) (e : Option Expr) (t : TO) : Prop :=
  ∀ (pins : List (Addr × Obj)) (s : Shared) (σ : St) (H : Hp) (Q : Option Int → Hp → Prop), Inv X pins σ H s → t σ H Q →
    wpAny (model X.prog X.w) X.A (evalPart e X.env) (fun u s' => ∃ o H', Inv X pins σ H' s' ∧ IsPart u o ∧ Q o H') X.xe s
def tNoPart : TO := fun _ H Q => Q none H
def tPart (t : TE) : TO := fun σ H Q => t σ H fun x H1 => ∃ i, x = .int i ∧ Q (some i) H1
section
variable {X : Cx} {e : Expr} {te : TE} {lo hi : Option Expr} {tl th : TO} {pos p2 : Pos}
theorem po_none : PO X none tNoPart := by
  intro pins s σ H Q I h
  rw [evalPart_none]
  exact wpAny_pure ⟨none, H, I, .none, h⟩
theorem po_some (h : PE X e te) : PO X (some e) (tPart te) := by
  intro pins s σ H Q I hw
  rw [evalPart_some]
  refine thn (h pins s σ H _ I hw) fun u s1 ⟨x, H1, I1, r1, q1⟩ => ?_
  obtain ⟨i, rfl, q⟩ := q1
  obtain ⟨t, rfl⟩ := r1
  exact ⟨some i, H1, I1, .int i t, q⟩
def SlR (X : Cx) (r : V → Option Int → Option Int → Hp → VK → Prop) : Prop :=
  ∀ (pins : List (Addr × Obj)) (s : Shared) (σ : St) (H : Hp) (x : V) (v vl vu : Value) (lo hi : Option Int) (sl : Addr) (Q : VK), Inv X pins σ H s → RelV x v → s.heap.IsSliceOf sl vl vu .none → IsPart vl lo → IsPart vu hi → r x lo hi H Q →
    ∃ T id, typeLookup (.type T) "__getitem__" = pure (some (.builtin id)) ∧ s.TypeIs v T ∧ wpAny (model X.prog X.w) X.A (getItem v (.ref sl)) (EP X pins σ Q) X.xe s
def tSl (r : V → Option Int → Option Int → Hp → VK → Prop) (te : TE) (tl th : TO) : TE := fun σ H Q => te σ H fun x H1 => tl σ H1 fun l H2 => th σ H2 fun u H3 => r x l u H3 Q
theorem pe_slice {r : V → Option Int → Option Int → Hp → VK → Prop} (hr : SlR X r) (he : PE X e te) (hl : PO X lo tl) (hu : PO X hi th) : PE X (.Subscript e (.Slice lo hi none p2) pos) (tSl r te tl th) := by
  intro pins s σ H Q I h
  refine Subscript_ (thn (he pins s σ H _ I h) fun v s1 ⟨x, H1, I1, r1, q1⟩ => ?_)
  refine wpAny_Slice (thn (hl pins s1 σ H1 _ I1 q1) fun vl s2 ⟨l, H2, I2, pl, q2⟩ => thn (hu pins s2 σ H2 _ I2 q2) fun vu s3 ⟨u, H3, I3, pu, q3⟩ => ?_)
  rw [evalPart_none]
  refine wpAny_pure ?_
  have I4 : Inv X pins σ H3 { s3 with heap := s3.heap.push { cls := .type "slice", data := .fields #[vl, vu, .none] } } := I3.kept (t' := s3.toks) fun b ob q => Heap.get?_push_of_some _ q
  obtain ⟨T, id, hT, ht, hg⟩ := hr pins { s3 with heap := s3.heap.push { cls := .type "slice", data := .fields #[vl, vu, .none] } } σ H3 x v vl vu l u s3.heap.objs.size Q I4 r1 (Heap.IsSliceOf.new ..) pl pu q3
  show wpAny (model X.prog X.w) X.A (subscriptTail e (.Slice lo hi none p2) v (.ref s3.heap.objs.size)) (EP X pins σ Q) X.xe { s3 with heap := s3.heap.push { cls := .type "slice", data := .fields #[vl, vu, .none] } }
  exact tail_any (ops := [.ref s3.heap.objs.size, v]) ht hT hg (by with_unfolding_all rfl)
def cutV (xs : List V) (lo hi : Option Int) : List V := (xs.drop (HT.sIx xs.length 0 lo)).take (HT.sIx xs.length xs.length hi - HT.sIx xs.length 0 lo)
theorem cutV_length (xs : List V) (lo hi : Option Int) : (cutV xs lo hi).length ≤ xs.length := by
  unfold cutV
  rw [List.length_take, List.length_drop]
  omega
def rSlT (K : PySem.W.Frag) : V → Option Int → Option Int → Hp → VK → Prop := fun x lo hi H Q => ∃ a xs, x = .ref a ∧ SqT K H a xs ∧
  ¬ (HT.sIx xs.length 0 lo = 0 ∧ HT.sIx xs.length xs.length hi = xs.length) ∧ ∀ p, H p = none → Q (.ref p) (upd H p (.tup (cutV xs lo hi)))
theorem sl_tup : SlR X (rSlT X.K) := by
  intro pins s σ H x v vl vu lo hi sl Q I rx hs pl pu h
  obtain ⟨a, xs, rfl, hx, hw, q⟩ := h
  cases rx
  obtain ⟨its, r, ht, hz⟩ := I.tuple hx
  have hlen : its.toArray.size = xs.length := by rw [List.size_toArray]; exact r.length.symm
  refine ⟨"tuple", _, PyProof.Rows.slot_tuple_getitem.lookup, ht.typeIs, ?_⟩
  refine HT.getItem_tuple_cut ht hs pl pu (by rw [hlen]; exact hw) ?_ (by rw [hlen]; exact hz)
  rw [hlen]
  refine ⟨.ref s.heap.objs.size, _, I.laid (t' := s.toks) (o := .tup (cutV xs lo hi)) (fun b ob q => Heap.get?_push_of_some _ q) (Nat.le_refl _) ?_, rfl, q _ (I.hok.fresh (Nat.le_refl _))⟩
  exact ⟨Nat.le_trans (cutV_length xs lo hi) hz, _, (r.drop (HT.sIx xs.length 0 lo)).take (HT.sIx xs.length xs.length hi - HT.sIx xs.length 0 lo), IsTup.new _ _⟩
end
end L2
namespace L2
open PySem PySem.Spec PyProof.Rows
def ixN (n : Nat) (i : Int) : Option Nat := if 0 ≤ i then (if i < n then some i.toNat else none) else if -(n : Int) ≤ i then some (i + n).toNat else none
def atI {α : Type} (xs : List α) (i : Int) : Option α := (ixN xs.length i).bind fun j => xs[j]?
theorem ixN_seq {n : Nat} {i : Int} {j : Nat} (h : ixN n i = some j) : seqIndex? i n = some j ∧ j < n ∧ -(n : Int) ≤ i ∧ i < n := by
  unfold ixN at h
  by_cases h0 : 0 ≤ i
  · rw [if_pos h0] at h
    by_cases h1 : i < n
    · rw [if_pos h1] at h
      have e : i.toNat = j := Option.some.inj h
      exact ⟨by rw [seqIndex_of h0 h1, e], by omega, by omega, h1⟩
    · rw [if_neg h1] at h; cases h
  · rw [if_neg h0] at h
    by_cases h1 : -(n : Int) ≤ i
    · rw [if_pos h1] at h
      have e : (i + n).toNat = j := Option.some.inj h
      exact ⟨by rw [seqIndex_neg (by omega) h1, e], by omega, h1, by omega⟩
    · rw [if_neg h1] at h; cases h
theorem atI_get {α : Type} {xs : List α} {i : Int} {v : α} (h : atI xs i = some v) : ∃ j, seqIndex? i xs.length = some j ∧ xs[j]? = some v ∧ j < xs.length ∧ -(xs.length : Int) ≤ i ∧ i < xs.length := by
  unfold atI at h
  cases e : ixN xs.length i with
  | none => rw [e] at h; cases h
  | some j =>
    rw [e] at h
    obtain ⟨h1, h2, h3, h4⟩ := ixN_seq e
    exact ⟨j, h1, h, h2, h3, h4⟩
theorem atI_nat {α : Type} {xs : List α} {j : Nat} {v : α} (h : xs[j]? = some v) : atI xs (j : Int) = some v := by
  have hj : j < xs.length := (List.getElem?_eq_some_iff.mp h).1
  have e : ixN xs.length (j : Int) = some j := by
    unfold ixN
    rw [if_pos (by omega), if_pos (by omega)]; simp
  unfold atI; rw [e]; exact h
def PlainIx (b : Expr) : Prop := ∀ o i, subscripted b false o i = operate [o, i] (getItem o i)
def IxR (X : Cx) (r : R2) : Prop :=
  ∀ (value slice : Expr) (pins : List (Addr × Obj)) (s : Shared) (σ : St) (H : Hp) (x y : V) (v u : Value) (Q : VK), Inv X pins σ H s → RelV x v → RelV y u → r x y H Q →
    subscripted slice false v u = operate [v, u] (getItem v u) → wpAny (model X.prog X.w) X.A (subscriptTail value slice v u) (EP X pins σ Q) X.xe s
def MtR (X : Cx) (id : String) (r : V → List V → Hp → VK → Prop) : Prop :=
  ∀ (pins : List (Addr × Obj)) (s : Shared) (σ : St) (H : Hp) (x : V) (xs : List V) (v : Value) (us : List Value) (Q : VK), Inv X pins σ H s → RelV x v → Vals xs us → r x xs H Q →
    wpAny (model X.prog X.w) X.A (call (.builtin id) (v :: us)) (EP X pins σ Q) X.xe s
section
variable {X : Cx} {a b : Expr} {ta tb : TE} {pos : Pos}
theorem pe_ix {r : R2} (hr : IxR X r) (ha : PE X a ta) (hb : PE X b tb) (hs : PlainIx b) : PE X (.Subscript a b pos) (tOp r ta tb) := by
  intro pins s σ H Q I h
  exact Subscript_ (binT ha hb I h fun v u s2 x y H2 I2 rx ry q => hr a b pins s2 σ H2 x y v u Q I2 rx ry q (hs _ _))
def rIxL (K : PySem.W.Frag) : R2 := fun x y H Q => ∃ p xs i v, x = .ref p ∧ y = .int i ∧ SqL K H p xs ∧ atI xs i = some v ∧ Q v H
def rIxT (K : PySem.W.Frag) : R2 := fun x y H Q => ∃ p xs i v, x = .ref p ∧ y = .int i ∧ SqT K H p xs ∧ atI xs i = some v ∧ Q v H
theorem ix_list : IxR X (rIxL X.K) := by
  intro value slice pins s σ H x y v u Q I rx ry h hs
  obtain ⟨p, xs, i, z, rfl, rfl, hq, he, q⟩ := h
  cases rx
  obtain ⟨t, rfl⟩ := ry
  obtain ⟨its, r, pl, hz⟩ := I.list hq
  obtain ⟨j, h1, h2, h3, h4, h5⟩ := atI_get he
  obtain ⟨w, ew, rw'⟩ := r.get h2
  have hl := r.length
  have hn := line63
  have fin : EP X pins σ Q w s := ⟨z, H, I, rw', q⟩
  by_cases h0 : 0 ≤ i
  · have hj : i.toNat = j := by
      rw [seqIndex_of h0 h5] at h1
      exact Option.some.inj h1
    exact item_listR pl.isList h0 (by omega) (by rw [hj]; simpa using ew) fin hs
  · have hj : (i + (its.toArray.size : Int)).toNat = j := by
      rw [seqIndex_neg (by omega) h4] at h1
      rw [List.size_toArray, ← hl]
      exact Option.some.inj h1
    exact subscriptTail_builtinR (x := w) pl.isList.typeIs slot_list_getitem.lookup
      (wpAny_getItem_list_neg (Q := fun r s' => r = w ∧ EP X pins σ Q r s') pl.isList (by omega) (by rw [List.size_toArray] <;> omega) (by omega) (by rw [hj]; simpa using ew) ⟨rfl, fin⟩) hs
theorem ix_tup : IxR X (rIxT X.K) := by
  intro value slice pins s σ H x y v u Q I rx ry h hs
  obtain ⟨p, xs, i, z, rfl, rfl, hq, he, q⟩ := h
  cases rx
  obtain ⟨t, rfl⟩ := ry
  obtain ⟨its, r, pl, hz⟩ := I.tuple hq
  obtain ⟨j, h1, h2, h3, h4, h5⟩ := atI_get he
  obtain ⟨w, ew, rw'⟩ := r.get h2
  have hl := r.length
  have hn := line63
  have fin : EP X pins σ Q w s := ⟨z, H, I, rw', q⟩
  exact subscriptTail_builtinR (x := w) pl.typeIs slot_tuple_getitem.lookup
    (getItem_tuple (j := j) (Q := fun r s' => r = w ∧ EP X pins σ Q r s') pl (by omega) (by omega) (by rw [List.size_toArray, ← hl]; exact h1) (by simpa using ew) ⟨rfl, fin⟩) hs
theorem mapSeq_set (its : List Value) (n j : Nat) (u : Value) : Obj.mapSeq (·.setIfInBounds j u) { cls := .type "list", data := .seq its.toArray n } = { cls := .type "list", data := .seq (its.set j u).toArray n } := by
  simp [Obj.mapSeq]
theorem Inv.lst {pins : List (Addr × Obj)} {σ : St} {H : Hp} {s : Shared} {p : Addr} {xs : List V} (I : Inv X pins σ H s) (h : H p = some (.lst xs)) :
    ∃ (its : List Value) (n : Nat), Vals xs its ∧ s.heap.get? p = some { cls := .type "list", data := .seq its.toArray n } ∧ xs.length ≤ sizeLine := by
  obtain ⟨z, its, n, r, e⟩ := I.hok p _ h
  exact ⟨its, n, r, e, z⟩
theorem Inv.lstUpd {pins : List (Addr × Obj)} {σ : St} {H : Hp} {s : Shared} {p : Addr} {xs ys : List V} {its its' : List Value} {n n' : Nat} {f : Obj → Obj} (I : Inv X pins σ H s) (h : H p = some (.lst xs))
    (ho : s.heap.get? p = some { cls := .type "list", data := .seq its.toArray n }) (hf : f { cls := .type "list", data := .seq its.toArray n } = { cls := .type "list", data := .seq its'.toArray n' }) (r : Vals ys its') (hz : ys.length ≤ sizeLine) (t : Nat) :
    Inv X pins σ (upd H p (.lst ys)) { s with heap := s.heap.update p f, toks := t } := by
  have e : (s.heap.update p f).get? p = some { cls := .type "list", data := .seq its'.toArray n' } := by
    rw [Heap.get?_update_self f ho (by rw [hf] <;> rfl), hf]
  refine I.write (x := p) (e := p) (by rw [h]; trivial) (.inl rfl) (fun b u hb q => (Heap.get?_update_other _ _ (Ne.symm hb)).trans q) ⟨_, e⟩ ?_
  exact ⟨hz, its', n', r, e⟩
def rSetL : V → V → V → Hp → (Hp → Prop) → Prop := fun o i v H Q => ∃ p xs k j, o = .ref p ∧ i = .int k ∧ H p = some (.lst xs) ∧ ixN xs.length k = some j ∧ Q (upd H p (.lst (xs.set j v)))
theorem set_list : PSet X rSetL := by
  intro pins s σ H o i v ov iv u Q I ro ri rv h
  obtain ⟨p, xs, k, j, rfl, rfl, hp, hj, q⟩ := h
  cases ro
  obtain ⟨t, rfl⟩ := ri
  obtain ⟨its, n, r, ho, hz⟩ := I.lst hp
  obtain ⟨h1, h2, h3, h4⟩ := ixN_seq hj
  have hl := r.length
  have hn := line63
  have I' : Inv X pins σ (upd H p (.lst (xs.set j v))) { s with heap := s.heap.update p (Obj.mapSeq (·.setIfInBounds j u)) } :=
    I.lstUpd hp ho (mapSeq_set its n j u) (r.set rv j) (by rw [List.length_set]; exact hz) s.toks
  by_cases h0 : 0 ≤ k
  · have hk : k.toNat = j := by
      rw [seqIndex_of h0 h4] at h1
      exact Option.some.inj h1
    exact PySem.W.ki_setAt ho h0 (by omega) (by rw [List.size_toArray, ← hl]; exact h4) (by rw [hk]; exact ⟨_, I', q⟩)
  · have hk : (k + (its.toArray.size : Int)).toNat = j := by
      rw [seqIndex_neg (by omega) h3] at h1
      rw [List.size_toArray, ← hl]
      exact Option.some.inj h1
    exact PySem.W.ki_setBack ho (by omega) (by rw [List.size_toArray, ← hl]; exact h3) (by omega) (by rw [hk]; exact ⟨_, I', q⟩)
theorem slice_bounds (lo hi : Option Int) (n : Nat) : (sliceBounds lo hi none n).1 = ((HT.sIx n 0 lo : Nat) : Int) ∧ (sliceBounds lo hi none n).2.1 = ((HT.sIx n n hi : Nat) : Int) ∧ (sliceBounds lo hi none n).2.2 = 1 := by
  refine ⟨?_, ?_, rfl⟩
  · cases lo with
    | none => simp [sliceBounds, HT.sIx]
    | some i =>
      simp only [sliceBounds, HT.sIx, Option.getD_none, show (1 : Int) > 0 by decide, if_true]
      by_cases h : i < 0
      · simp only [h, if_true] <;> omega
      · simp only [h, if_false] <;> omega
  · cases hi with
    | none => simp [sliceBounds, HT.sIx]
    | some i =>
      simp only [sliceBounds, HT.sIx, Option.getD_none, show (1 : Int) > 0 by decide, if_true]
      by_cases h : i < 0
      · simp only [h, if_true] <;> omega
      · simp only [h, if_false] <;> omega
theorem slicePick_cut (its : List Value) (lo hi : Option Int) : slicePick its.toArray lo hi none = ((its.drop (HT.sIx its.length 0 lo)).take (HT.sIx its.length its.length hi - HT.sIx its.length 0 lo)).toArray := by
  obtain ⟨h1, h2, h3⟩ := slice_bounds lo hi its.toArray.size
  unfold slicePick
  rw [h1, h2, h3]
  simp only [sliceRange_one, pick_run, List.size_toArray] <;> rfl
def rSlL (K : PySem.W.Frag) : V → Option Int → Option Int → Hp → VK → Prop := fun x lo hi H Q => ∃ a xs, x = .ref a ∧ SqL K H a xs ∧ ∀ p, H p = none → Q (.ref p) (upd H p (.lst (cutV xs lo hi)))
theorem sl_list : SlR X (rSlL X.K) := by
  intro pins s σ H x v vl vu lo hi sl Q I rx hs pl pu h
  obtain ⟨a, xs, rfl, hx, q⟩ := h
  cases rx
  obtain ⟨its, r, ht, hz⟩ := I.list hx
  have hlen := r.length
  refine ⟨"list", _, slot_list_getitem.lookup, ht.isList.typeIs, ?_⟩
  refine wpAny_getItem_list_slice ht.isList hs pl pu .none (by simp) ?_ (by rw [List.size_toArray] <;> omega)
  rw [slicePick_cut, ← hlen]
  refine ⟨.ref s.heap.objs.size, _, I.laid (t' := s.toks) (o := .lst (cutV xs lo hi)) (fun b ob q => Heap.get?_push_of_some _ q) (Nat.le_refl _) ?_, rfl, q _ (I.hok.fresh (Nat.le_refl _))⟩
  exact ⟨Nat.le_trans (cutV_length xs lo hi) hz, _, 0, (r.drop (HT.sIx xs.length 0 lo)).take (HT.sIx xs.length xs.length hi - HT.sIx xs.length 0 lo), Heap.get?_push_size _ rfl⟩
def flatV : V → Bool
  | .non => true
  | .bl _ => true
  | .int _ => true
  | .str _ => true
  | _ => false
def eqV : V → V → Bool
  | .non, .non => true
  | .bl a, .bl b => a == b
  | .bl a, .int b => (if a then 1 else 0) == b
  | .int a, .bl b => a == (if b then 1 else 0)
  | .int a, .int b => a == b
  | .str a, .str b => a == b
  | _, _ => false
theorem eqAt_V {A : Around} {s : Shared} {y x : V} {u v : Value} (ry : RelV y u) (rx : RelV x v) (fy : flatV y = true) (fx : flatV x = true) : SeqAt.EqAt A s u v (eqV y x) := by
  cases y with
  | non =>
    cases ry
    cases x with
    | non => cases rx; exact SeqAt.EqAt.same _
    | bl b => cases rx; exact SeqAt.EqAt.none_bool b
    | int b => obtain ⟨t, rfl⟩ := rx; exact SeqAt.EqAt.none_int b t
    | str b => obtain ⟨t, rfl⟩ := rx; exact SeqAt.EqAt.none_str b t
    | _ => exact absurd (show false = true from fx) Bool.false_ne_true
  | bl a =>
    cases ry
    cases x with
    | non => cases rx; exact SeqAt.EqAt.bool_none a
    | bl b => cases rx; exact SeqAt.EqAt.bool_bool a b
    | int b => obtain ⟨t, rfl⟩ := rx; exact SeqAt.EqAt.bool_int a b t
    | str b => obtain ⟨t, rfl⟩ := rx; exact SeqAt.EqAt.bool_str a b t
    | _ => exact absurd (show false = true from fx) Bool.false_ne_true
  | int a =>
    obtain ⟨t', rfl⟩ := ry
    cases x with
    | non => cases rx; exact SeqAt.EqAt.int_none a t'
    | bl b => cases rx; exact SeqAt.EqAt.int_bool a t' b
    | int b => obtain ⟨t, rfl⟩ := rx; exact SeqAt.EqAt.int_int a t' b t
    | str b => obtain ⟨t, rfl⟩ := rx; exact SeqAt.EqAt.int_str a t' b t
    | _ => exact absurd (show false = true from fx) Bool.false_ne_true
  | str a =>
    obtain ⟨t', rfl⟩ := ry
    cases x with
    | non => cases rx; exact SeqAt.EqAt.str_none a t'
    | bl b => cases rx; exact SeqAt.EqAt.str_bool a t' b
    | int b => obtain ⟨t, rfl⟩ := rx; exact SeqAt.EqAt.str_int a t' b t
    | str b => obtain ⟨t, rfl⟩ := rx; exact SeqAt.EqAt.str_str a t' b t
    | _ => exact absurd (show false = true from fx) Bool.false_ne_true
  | _ => exact absurd (show false = true from fy) Bool.false_ne_true
def eqU (x : V) (u : Value) : Bool := match u with
  | .none => eqV .non x
  | .bool b => eqV (.bl b) x
  | .int i _ => eqV (.int i) x
  | .str z _ => eqV (.str z) x
  | _ => false
theorem eqU_of {x y : V} {u : Value} (r : RelV y u) (f : flatV y = true) : eqU x u = eqV y x := by
  cases y with
  | non => cases r; rfl
  | bl b => cases r; rfl
  | int i => obtain ⟨t, rfl⟩ := r; rfl
  | str z => obtain ⟨t, rfl⟩ := r; rfl
  | _ => exact absurd (show false = true from f) Bool.false_ne_true
theorem any_eqU {x : V} : ∀ {xs : List V} {us : List Value}, Vals xs us → xs.all flatV = true → us.any (eqU x) = xs.any fun y => eqV y x
  | _, _, .nil, _ => rfl
  | y :: xs, u :: us, .cons r t, f => by
    rw [List.all_cons, Bool.and_eq_true] at f
    rw [List.any_cons, List.any_cons, eqU_of r f.1, any_eqU t f.2]
theorem mem_eqAt {A : Around} {s : Shared} {x : V} {v : Value} (rx : RelV x v) (fx : flatV x = true) : ∀ {xs : List V} {us : List Value}, Vals xs us → xs.all flatV = true → ∀ u ∈ us, SeqAt.EqAt A s u v (eqU x u)
  | _, _, .nil, _ => fun u hu => by cases hu
  | y :: xs, u :: us, .cons r t, f => fun u' hu => by
    rw [List.all_cons, Bool.and_eq_true] at f
    rcases List.mem_cons.mp hu with rfl | hu
    · rw [eqU_of r f.1]; exact eqAt_V r rx f.1 fx
    · exact mem_eqAt rx fx t f.2 u' hu
def inV (x : V) (xs : List V) : Bool := xs.any fun y => eqV y x
def rIn (K : PySem.W.Frag) (neg : Bool) : R2 := fun x y H Q => ∃ p xs, y = .ref p ∧ (SqL K H p xs ∨ SqT K H p xs) ∧ flatV x = true ∧ xs.all flatV = true ∧ Q (.bl (if neg then !inV x xs else inV x xs)) H
theorem op_in_seq : OpR X (compareOp .In) (rIn X.K false) := by
  intro pins s σ H x y v u Q I rx ry h
  obtain ⟨p, xs, rfl, hq, fx, fs, q⟩ := h
  cases ry
  rcases hq with hq | hq
  · obtain ⟨its, r, pl, hz⟩ := I.list hq
    refine SeqAt.in_listAt (eqU x) pl.isList (fun w hw => mem_eqAt rx fx r fs w (by simpa using hw)) ⟨.bl _, H, I, rfl, ?_⟩
    rw [show its.toArray.any (eqU x) = its.any (eqU x) by simp, any_eqU r fs]
    exact q
  · obtain ⟨its, r, pl, hz⟩ := I.tuple hq
    refine SeqAt.in_tupleAt (eqU x) pl (fun w hw => mem_eqAt rx fx r fs w (by simpa using hw)) ⟨.bl _, H, I, rfl, ?_⟩
    rw [show its.toArray.any (eqU x) = its.any (eqU x) by simp, any_eqU r fs]
    exact q
theorem call_len_seq : CallR X (.builtin "len") (fun xs H Q => ∃ p ys, xs = [.ref p] ∧ (SqL X.K H p ys ∨ SqT X.K H p ys) ∧ Q (.int ys.length) H) := by
  intro pins s σ H xs us Q I r h
  obtain ⟨p, ys, rfl, hq, q⟩ := h
  obtain ⟨u, rfl, rx⟩ := vals1 r
  cases rx
  have hn := line63
  rcases hq with hq | hq
  · obtain ⟨its, r', pl, hz⟩ := I.list hq
    have hlen := r'.length
    exact Calls.call_len_list pl.isList (by simp only [List.size_toArray] <;> omega) ⟨.int ys.length, H, I.tok _, ⟨s.toks + 1, by rw [List.size_toArray, hlen]⟩, q⟩
  · obtain ⟨its, r', pl, hz⟩ := I.tuple hq
    have hlen := r'.length
    exact len_tuple pl (by simp only [List.size_toArray] <;> omega) ⟨.int ys.length, H, I.tok _, ⟨s.toks + 1, by rw [List.size_toArray, hlen]⟩, q⟩
theorem call_len_str : CallR X (.builtin "len") (fun xs H Q => ∃ z, xs = [.str z] ∧ z.length ≤ sizeLine ∧ Q (.int z.length) H) := by
  intro pins s σ H xs us Q I r h
  obtain ⟨z, rfl, hz, q⟩ := h
  obtain ⟨u, rfl, t, rfl⟩ := vals1 r
  have hn := line63
  exact len_str (by omega) ⟨.int z.length, H, I.tok _, ⟨_, rfl⟩, q⟩
def tyV (K : PySem.W.Frag) (T : String) (x : V) (H : Hp) : Prop := match x with
  | .str _ => T = "str"
  | .int _ => T = "int"
  | .ref p => (T = "list" ∧ ∃ xs, SqL K H p xs) ∨ (T = "tuple" ∧ ∃ o, K.lookup p = some o ∧ o.cls = .type "tuple" ∧ o.dict = none) ∨
      (T = "dict" ∧ ((∃ kvs, H p = some (.dK kvs)) ∨ ∃ kvs, H p = some (.dT kvs))) ∨ (T = "set" ∧ ∃ S n, H p = some (.set S n))
  | _ => False
theorem tyV_is {pins : List (Addr × Obj)} {σ : St} {H : Hp} {s : Shared} {T : String} {x : V} {v : Value} (I : Inv X pins σ H s) (r : RelV x v) (ty : tyV X.K T x H) :
    s.TypeIs v T ∧ ∀ a, v = .ref a → ∃ ob, s.heap.get? a = some ob ∧ ob.dict = none := by
  cases x with
  | str z =>
    obtain ⟨t, rfl⟩ := r
    cases (show T = "str" from ty)
    exact ⟨typeIs_str s z t, fun _ e => nomatch e⟩
  | int i =>
    obtain ⟨t, rfl⟩ := r
    cases (show T = "int" from ty)
    exact ⟨typeIs_int s i t, fun _ e => nomatch e⟩
  | ref p =>
    cases r
    rcases ty with ⟨rfl, xs, hq⟩ | ⟨rfl, o, hk, hc, hd⟩ | ⟨rfl, hk⟩ | ⟨rfl, S, n, hk⟩
    · obtain ⟨its, _, pl, _⟩ := I.list hq
      refine ⟨pl.isList.typeIs, fun a e => ?_⟩
      cases e
      obtain ⟨o, n, e, c, hd, _⟩ := pl
      exact ⟨o, e, hd⟩
    · refine ⟨⟨o, I.kIn p o hk, hc⟩, fun a e => ?_⟩
      cases e
      exact ⟨o, I.kIn _ o hk, hd⟩
    · have z : ∃ o, s.heap.get? p = some o ∧ o.ExactDict := by
        rcases hk with ⟨kvs, hk⟩ | ⟨kvs, hk⟩
        · obtain ⟨_, _, _, _, o, _, _, e, ex, _⟩ := I.hok p _ hk
          exact ⟨o, e, ex⟩
        · obtain ⟨_, _, _, _, o, _, _, e, ex, _⟩ := I.hok p _ hk
          exact ⟨o, e, ex⟩
      obtain ⟨o, e, ex⟩ := z
      refine ⟨⟨o, e, ex.1⟩, fun a e2 => ?_⟩
      cases e2
      exact ⟨o, e, ex.2.1⟩
    · obtain ⟨o, _, _, _, e, ex, _⟩ := I.hok p _ hk
      refine ⟨⟨o, e, ex.1⟩, fun a e2 => ?_⟩
      cases e2
      exact ⟨o, e, ex.2.1⟩
  | _ => exact False.elim ty
def tBM (K : PySem.W.Frag) (T : String) (r : V → List V → Hp → VK → Prop) (to : TE) (t : TA) : TE := fun σ H Q => to σ H fun x H1 => tyV K T x H1 ∧ t σ H1 fun xs H2 => r x xs H2 Q
variable {o e : Expr} {es : List Expr} {to : TE} {t : TA} {name : Str} {apos cpos : Pos} {T id : String} {r : V → List V → Hp → VK → Prop}
theorem pe_bm (pa : PlainAttrs T) (slot : Slot T name id) (hty : typeOf (.builtin id) = pure (.type "method_descriptor")) (hm : MtR X id r) (ho : PE X o to) (ha : PA X (e :: es) t)
    (hbase : attributeBase o name X.env (eval o X.env) = eval o X.env := by rfl)
    (hfew : ((backTo cpos (starEach (e :: es) X.env)).all (fun x => !x.1) && (backToKw cpos (keywordEach [] X.env)).all (fun x => x.1.isSome)
      && decide ((e :: es).length + ([] : List Keyword).length + (if ([] : List Keyword).isEmpty then 0 else 1) < 30)) = true := by rfl)
    (hline : (apos.endLine == cpos.line) = true := by rfl) (hs : starEach (e :: es) X.env = (false, eval e X.env) :: starEach es X.env := by rfl) (hplain : (backTo cpos (starEach es X.env)).any (·.1) = false := by rfl) :
    PE X (.Call (.Attribute o name apos) (e :: es) [] cpos) (tBM X.K T r to t) := by
  intro pins s σ H Q I h
  refine wpAny_Call_method_late hbase hfew hline rfl (thn (ho pins s σ H _ I h) fun v s1 ⟨x, H1, I1, r1, ty, q1⟩ => ?_)
  obtain ⟨h1, h2⟩ := tyV_is I1 r1 ty
  refine ⟨T, id, pa, slot, hty, h1, h2, ?_⟩
  have hA := ha cpos pins s1 σ H1 _ I1 q1
  rw [hs] at hA ⊢
  refine Calls.callWith_builtin (by show (false || (backTo cpos (starEach es X.env)).any (·.1)) = false; rw [hplain] <;> rfl) (Calls.evalArgs_plain ?_)
  exact thn hA fun us s2 ⟨vs, H2, I2, r2, q2⟩ => hm pins s2 σ H2 x vs v us Q I2 r1 r2 q2
end
end L2
namespace L2
open PySem PySem.Spec PyProof.Rows
def MtM (X : Cx) (id : String) (r : V → List V → Hp → VK → Prop) : Prop :=
  ∀ (pins : List (Addr × Obj)) (s : Shared) (σ : St) (H : Hp) (x : V) (xs : List V) (v : Value) (us : List Value) (Q : VK), Inv X pins σ H s → RelV x v → Vals xs us → r x xs H Q →
    wpAny (model X.prog X.w) X.A (call (.builtin id) (v :: us)) (EP X pins σ Q) X.xe s
theorem Vals.one : ∀ {x : V} {us : List Value}, Vals [x] us → ∃ u, us = [u] ∧ RelV x u
  | _, _, .cons r .nil => ⟨_, rfl, r⟩
theorem Vals.reverse {xs : List V} {us : List Value} (h : Vals xs us) : Vals xs.reverse us.reverse := by
  induction h with
  | nil => exact .nil
  | cons r t ih => rw [List.reverse_cons, List.reverse_cons]; exact Vals.append ih (.cons r .nil)
theorem Vals.rep {xs : List V} {us : List Value} (h : Vals xs us) : ∀ k : Nat, Vals (List.replicate k xs).flatten (List.replicate k us).flatten
  | 0 => .nil
  | k + 1 => by
    rw [List.replicate_succ, List.replicate_succ, List.flatten_cons, List.flatten_cons]
    exact Vals.append h (Vals.rep h k)
theorem foldl_rep (its : List Value) : ∀ (k : Nat) (acc : List Value),
    List.foldl (fun x1 x2 => x1 ++ x2) acc.toArray (List.replicate k its.toArray) = (acc ++ (List.replicate k its).flatten).toArray
  | 0, acc => by simp
  | k + 1, acc => by
    have e : acc.toArray ++ its.toArray = (acc ++ its).toArray := by simp
    have e2 : (acc ++ its) ++ (List.replicate k its).flatten = acc ++ (List.replicate (k + 1) its).flatten := by
      rw [List.replicate_succ, List.flatten_cons, List.append_assoc]
    rw [← e2, ← foldl_rep its k (acc ++ its), ← e, List.replicate_succ, List.foldl_cons]
section
variable {X : Cx} {pins : List (Addr × Obj)} {σ : St} {H : Hp} {s : Shared} {l b : Addr} {xs ys zs : List V}
theorem Inv.lset {its its' : List Value} {n : Nat} {f : Array Value → Array Value} {t' : Nat} (I : Inv X pins σ H s) (hH : H l = some (.lst xs))
    (e : s.heap.get? l = some { cls := .type "list", data := .seq its.toArray n }) (hf : f its.toArray = its'.toArray) (hv : Vals ys its') (hz : ys.length ≤ sizeLine) :
    Inv X pins σ (upd H l (.lst ys)) { s with heap := s.heap.update l (Obj.mapSeq f), toks := t' } := by
  have q := PySem.IsL.update e f
  rw [hf] at q
  refine I.write (x := l) (e := l) (by rw [hH]; exact trivial) (.inl rfl) (fun b' u hb hu => (Heap.get?_update_other s.heap (Obj.mapSeq f) (Ne.symm hb)).trans hu) ⟨_, q⟩ ?_
  exact ⟨hz, its', _, hv, q⟩
theorem Inv.lnew {its : List Value} {t' : Nat} (I : Inv X pins σ H s) (hv : Vals ys its) (hz : ys.length ≤ sizeLine) :
    Inv X pins σ (upd H s.heap.objs.size (.lst ys)) { s with heap := s.heap.push { cls := .type "list", data := .seq its.toArray }, toks := t' } :=
  I.laid (fun _ _ q => Heap.get?_push_of_some _ q) (Nat.le_refl _) ⟨hz, its, 0, hv, Heap.get?_push_size _ rfl⟩
theorem Inv.fresh (I : Inv X pins σ H s) : H s.heap.objs.size = none := I.hok.fresh (Nat.le_refl _)
theorem Inv.lstM (I : Inv X pins σ H s) (hH : H l = some (.lst xs)) : xs.length ≤ sizeLine ∧ ∃ (its : List Value) (n : Nat), Vals xs its ∧ xs.length = its.length ∧ s.heap.get? l = some { cls := .type "list", data := .seq its.toArray n } := by
  obtain ⟨z, its, n, r, e⟩ := I.hok l _ hH
  exact ⟨z, its, n, r, r.length, e⟩
theorem notLongL {n : Nat} (h : n ≤ sizeLine) : Builtin.List.listTooLong n = false := by
  unfold Builtin.List.listTooLong
  exact decide_eq_false (by omega)
end
section
variable {X : Cx}
def rAppend : V → List V → Hp → VK → Prop := fun x vs H Q => ∃ l xs y, x = .ref l ∧ vs = [y] ∧ H l = some (.lst xs) ∧ xs.length < sizeLine ∧ Q .non (upd H l (.lst (xs ++ [y])))
theorem mt_append : MtM X "list.append" rAppend := by
  intro pins s σ H x vs v us Q I rx rv h
  obtain ⟨l, xs, y, rfl, rfl, hH, hz, q⟩ := h
  cases rx
  obtain ⟨u, rfl, ru⟩ := rv.one
  obtain ⟨z, its, n, r, hl, e⟩ := I.lstM hH
  refine call_meets F.slot_list_append ⟨_, e, rfl⟩ F.entry_list_append (F.args_list_append_2 _ _) (PySem.list_append l its.toArray n u (by rw [List.size_toArray]; omega)) ⟨e, ?_⟩
  refine ⟨.non, _, I.lset (its' := its ++ [u]) hH e (by simp) (r.append (.cons ru .nil)) ?_, rfl, q⟩
  rw [List.length_append, List.length_singleton]
  omega
def rExtend : V → List V → Hp → VK → Prop := fun x vs H Q => ∃ l b xs zs, x = .ref l ∧ vs = [.ref b] ∧ H l = some (.lst xs) ∧ H b = some (.lst zs) ∧ xs.length + zs.length ≤ sizeLine ∧ Q .non (upd H l (.lst (xs ++ zs)))
theorem mt_extend : MtM X "list.extend" rExtend := by
  intro pins s σ H x vs v us Q I rx rv h
  obtain ⟨l, b, xs, zs, rfl, rfl, hH, hB, hz, q⟩ := h
  cases rx
  obtain ⟨u, rfl, ru⟩ := rv.one
  cases ru
  obtain ⟨z, its, n, r, hl, e⟩ := I.lstM hH
  obtain ⟨z2, its2, n2, r2, hl2, e2⟩ := I.lstM hB
  have hsz : its.toArray.size + its2.toArray.size ≤ sizeLine := by rw [List.size_toArray, List.size_toArray]; omega
  have hlong : ¬ (!its.toArray.isEmpty && Builtin.List.listTooLong (its.toArray.size + its2.toArray.size)) = true := by
    rw [notLongL hsz, Bool.and_false]
    exact Bool.false_ne_true
  refine call_meets F.slot_list_extend ⟨_, e, rfl⟩ F.entry_list_extend (F.args_list_extend_2 _ _)
    (AutoSeq1.list_extend_list_list_0 l its.toArray n b its2.toArray n2 hlong (by rw [List.size_toArray]; omega) (by omega)) ⟨e, e2, ?_⟩
  refine ⟨.non, _, I.lset (its' := its ++ its2) hH e (by simp) (r.append r2) ?_, rfl, q⟩
  rw [List.length_append]
  omega
def rCat : R2 := fun x y H Q => ∃ l b xs zs, x = .ref l ∧ y = .ref b ∧ H l = some (.lst xs) ∧ H b = some (.lst zs) ∧ xs.length + zs.length ≤ sizeLine ∧ ∀ p, H p = none → Q (.ref p) (upd H p (.lst (xs ++ zs)))
theorem op_cat : OpR X (binaryOp .Add) rCat := by
  intro pins s σ H x y v u Q I rx ry h
  obtain ⟨l, b, xs, zs, rfl, rfl, hH, hB, hz, q⟩ := h
  cases rx
  cases ry
  obtain ⟨z, its, n, r, hl, e⟩ := I.lstM hH
  obtain ⟨z2, its2, n2, r2, hl2, e2⟩ := I.lstM hB
  refine PySem.P.add_list e e2 ?_ (by rw [List.size_toArray, List.size_toArray]; omega)
  have ea : its.toArray ++ its2.toArray = (its ++ its2).toArray := by simp
  rw [ea]
  exact ⟨.ref _, _, I.lnew (t' := s.toks) (r.append r2) (by rw [List.length_append]; omega), rfl, q _ I.fresh⟩
def rRep : R2 := fun x y H Q => ∃ l k xs, x = .ref l ∧ y = .int k ∧ H l = some (.lst xs) ∧ -(2 ^ 63) ≤ k ∧ k < 2 ^ 63 ∧ xs.length * k.toNat ≤ sizeLine ∧
  ∀ p, H p = none → Q (.ref p) (upd H p (.lst (List.replicate k.toNat xs).flatten))
theorem len_rep {α : Type} (xs : List α) (k : Nat) : (List.replicate k xs).flatten.length = k * xs.length := by
  induction k with
  | zero => simp
  | succ k ih => rw [List.replicate_succ, List.flatten_cons, List.length_append, ih, Nat.succ_mul, Nat.add_comm]
theorem op_rep : OpR X (binaryOp .Mult) rRep := by
  intro pins s σ H x y v u Q I rx ry h
  obtain ⟨l, k, xs, rfl, rfl, hH, h1, h2, hz, q⟩ := h
  cases rx
  obtain ⟨t, rfl⟩ := ry
  obtain ⟨z, its, n, r, hl, e⟩ := I.lstM hH
  have hlen : its.toArray.size * k.toNat ≤ sizeLine := by rw [List.size_toArray, ← hl]; exact hz
  have hcap : ¬ its.toArray.size * k.toNat > (2 ^ 63 - 1) / 8 := by
    have : (sizeLine : Nat) ≤ (2 ^ 63 - 1) / 8 := by decide
    omega
  have hfit : ¬ (!Builtin.List.listFitsIndex k) = true := by
    rw [fitsIndex_both h1 h2]
    exact Bool.false_ne_true
  have hlong : ¬ Builtin.List.listTooLong (its.toArray.size * k.toNat) = true := by
    rw [notLongL hlen]
    exact Bool.false_ne_true
  have hnew : List.foldl (fun x1 x2 => x1 ++ x2) #[] (List.replicate (if its.toArray.isEmpty = true then 0 else k.toNat) its.toArray) = (List.replicate k.toNat its).flatten.toArray := by
    have f0 : ∀ m : Nat, List.foldl (fun x1 x2 => x1 ++ x2) #[] (List.replicate m its.toArray) = (List.replicate m its).flatten.toArray := fun m => by
      have := foldl_rep its m []
      rw [List.nil_append] at this
      exact this
    rw [f0]
    cases its with
    | nil => simp
    | cons a r' => rw [if_neg (by simp)]
  refine wpAny_binaryOp_repeat_ref (T := "list") (U := "int") (by decide) ⟨_, e, rfl⟩ (fun s' => typeIs_int s' k t) noFill_list_mul F.fills_int_mul F.slot_int_rmul repeat_list F.slot_int_index.lookup
    (call_meets F.slot_int_rmul (typeIs_int s k t) F.entry_int_rmul (F.args_int_rmul_2 _ _) (int___rmul___int_list k t l its.toArray n)
      ⟨e, rfl, ⟨_, e, rfl⟩, call_meets F.slot_list_mul ⟨_, e, rfl⟩ F.entry_list_mul (F.args_list_mul_2 _ _) (AutoListH.list___mul___list_int_3 l its.toArray n k t hfit hcap hlong) ⟨e, ?_⟩⟩)
  rw [hnew]
  exact ⟨.ref _, _, I.lnew (t' := s.toks) (r.rep k.toNat) (by rw [len_rep, Nat.mul_comm]; exact hz), rfl, q _ I.fresh⟩
end
end L2
namespace Att
open PySem PySem.W PySem.Calls PyProof.Rows
theorem ints_of_wellAll {P : Params} {h : Heap} : ∀ (ns : List Int) (vs : List Value), WellAll P h vs (ns.map WData.int) → IntsAre vs ns := by
  intro ns
  induction ns with
  | nil =>
    intro vs w
    rw [List.map_nil] at w
    cases w
    exact .nil
  | cons n ns ih =>
    intro vs w
    rw [List.map_cons] at w
    cases w with
    | cons a b =>
      cases a
      exact .cons _ _ (ih _ b)
theorem script_of {l : OpenLaw} {n : Nat} (hn : l.most = some n) {P : Params} {h : Heap} {args : List WData} {vals : List Value}
    (hpre : l.row.toRowW.claim.pre args = true) (hwl : WellAll P h vals args) :
    ∃ a vs ns, vals = [Value.ref a] ∧ args = [WData.list (ns.map WData.int)] ∧ h.get? a = some { cls := .type "list", data := .seq vs.toArray } ∧ IntsAre vs ns ∧ ns.length ≤ n := by
  have hsh : WShape.hasAll [] args [.list .int] = true := (pre_splitW hpre).1
  have hc : l.pre.holds [] { args := args } = true := (pre_splitW hpre).2
  obtain ⟨d, r, rfl, h1, h2⟩ := hasAllW_cons hsh
  obtain rfl := hasAllW_nil h2
  obtain ⟨xs, rfl, h3⟩ := hasW_list h1
  obtain ⟨ns, rfl⟩ := items_int h3
  have hlen : ns.length ≤ n := by
    unfold OpenLaw.pre at hc
    have h4 : (WTm.not (.lt (.lit (.int (n : Int))) (.len (.arg 0)))).holds [] { args := [.list (ns.map .int)] } = true := by
      have h4 := (holds_andW hc).1
      rw [hn] at h4
      exact h4
    have h5 := condW_of h4 (w_not (w_lt w_lit (w_len_list (w_arg rfl))))
    rw [List.length_map] at h5
    refine Nat.le_of_not_lt fun q => ?_
    have q' : (n : Int) < ((ns.length : Nat) : Int) := by omega
    first
      | (rw [decide_eq_true q'] at h5; exact absurd h5 (by decide))
      | (simp at h5; omega)
  cases hwl with
  | cons w1 w2 =>
    cases w2
    cases w1 with
    | list ho hall => exact ⟨_, _, ns, rfl, rfl, ho, ints_of_wellAll ns _ hall, hlen⟩
theorem post_true (l : OpenLaw) (args : List WData) : l.row.toRowW.claim.post args (.bool true) args = true :=
  postW_of (r := l.row.toRowW) (X := (true == true))
    (show WShape.has [] (.bool true) .bool = true by first | rfl | decide | simp [WShape.has, WShape.arms, WShape.armsAll])
    (show (WTm.eq .res (.lit (.bool true))).value [] { args := args, res := some (.bool true), after := args } = some (.bool (true == true)) from w_eq_bool (w_res rfl) w_lit) rfl
theorem attach_call {l : OpenLaw} {n : Nat} {q : Program} {loose : List Str} {XP : (Str → Option Value) → Heap → Prop} {YP : World → Heap → Prop} {d : DefRec}
    (hn : l.most = some n) (hdf : d.params.defaults = [])
    (call : ∀ (w : World) (s₀ s₁ : Shared) (mg mb : Str → Option Value) (fa : Addr) (o : Obj) (pm cd doc : Value) (a : Addr) (vs : List Value) (ns : List Int),
      Ground q loose [] XP w s₀ mg mb s₁.heap → YP w s₁.heap →
      s₁.heap.get? fa = some o → o.data = .func (docDef d.name d.params d.body d.scope pm cd doc) → s₁.heap.CodeRec cd d.name → mg d.name = some (.ref fa) →
      s₁.heap.get? a = some { cls := .type "list", data := .seq vs.toArray } → IntsAre vs ns → ns.length ≤ n → s₁.gens = #[] →
      codeAny (model l.prog w) callerA (.call (.ref fa) ⟨[.ref a], []⟩) (fun r s' => r = .ok (.ret (.bool true)) ∧ OldK s₁.heap s'.heap ∧ s'.os = s₁.os ∧ AllBare s'.gens) s₁) :
    WalkO q loose XP YP l.row.toRowW d [] (fun f vs => PySem.call f vs) := by
  intro w s₀ s₁ mg mb G Y fa o pm cd doc dV kV ho hd hcd hD hmg hg args vals as hpre hlay hrd hwl hlo
  obtain rfl : dV = .none := Dflts.none hD hdf
  obtain rfl : kV = .none := Dflts.noKw hD
  obtain ⟨a, vs, ns, rfl, rfl, hobj, hints, hlen⟩ := script_of hn hpre hwl
  refine enter_call (codeAny_mono (call w s₀ s₁ mg mb fa o pm cd doc a vs ns G Y ho (fd_plain hd) hcd hmg hobj hints hlen hg) fun r s' hq => ?_)
  obtain ⟨rfl, h2, h3, h4⟩ := hq
  exact ⟨.inl ⟨.bool true, .bool true, [], rfl, fun _ => rfl, .bool true, post_true l _, fun _ => ⟨List.Pairwise.nil, fun _ hm => (nomatch hm)⟩⟩, h2, h3, h4⟩
end Att
namespace L2
open PySem PySem.Spec PyProof.Rows
theorem vals_ints : ∀ {vs : List Value} {ns : List Int}, IntsAre vs ns → Vals (ns.map V.int) vs
  | _, _, .nil => .nil
  | _, _, .cons n t h => .cons ⟨t, rfl⟩ (vals_ints h)
def Only (H : Hp) : Prop := ∀ b, H b = none ∨ ∃ o xs, H b = some (.frz o (.lst xs))
theorem law_call {P : Program} {w : World} {K : PySem.W.Frag} {mg mb : Str → Option Value} {CX : CXT} {k : Nat} {fa a : Addr} {fd : FuncData} {x : Str} {sp : Sp} {s₁ : Shared} {vs : List Value} {ns : List Int}
    (KX : K.In s₁.heap) (hns : s₁.heap.Ns mainGlobals mg) (hb : s₁.heap.Ns builtinsNs mb) (hbb : ∀ x : Str, x ≠ "__name__" → mb x = bootBuiltins x) (hlim : s₁.heap.NoLimit) (hg : s₁.gens = #[])
    (ha : s₁.heap.get? a = some { cls := .type "list", data := .seq vs.toArray }) (hi : IntsAre vs ns) (hl : ns.length ≤ sizeLine) (hr : Room k callerA)
    (F : ∀ base : Heap, K.In base → base.Ns mainGlobals mg → FnOk P w K mg base CX k fa fd [x] sp) (hbind : ∀ (s : Shared) (u : Value), BindsTo s fd ⟨[u], []⟩ [(x, u)])
    (hsp : ∀ H : Hp, Only H → SqL K H a (ns.map V.int) → sp [.ref a] H (fun v _ => v = .bl true) fun _ _ _ => False)
    (hCX : ∀ H e s', CX [] H s₁ (fun _ _ _ => False) e s' → False) :
    codeAny (model P w) callerA (.call (.ref fa) ⟨[.ref a], []⟩) (fun r s' => r = .ok (.ret (.bool true)) ∧ OldK s₁.heap s'.heap ∧ s'.os = s₁.os ∧ AllBare s'.gens) s₁ := by
  have rv := vals_ints hi
  have lenV := hi.length
  -- from an abstract heap in which nothing but the script may be tracked
  have core : ∀ H : Hp, Only H → SqL K H a (ns.map V.int) → HOk P w H s₁.heap → (∀ b, H b ≠ none → b = a) → (H a ≠ none → K.lookup a = none) →
      codeAny (model P w) callerA (.call (.ref fa) ⟨[.ref a], []⟩) (fun r s' => r = .ok (.ret (.bool true)) ∧ OldK s₁.heap s'.heap ∧ s'.os = s₁.os ∧ AllBare s'.gens) s₁ := by
    intro H hO hS hok hA hK
    have base_of : ∀ {b : Addr} {o : Obj}, s₁.heap.get? b = some o → H b = none → (hidT s₁.heap H).get? b = some o := fun e n => hidT_get e n
    have noA : ∀ {b : Addr} {o : Obj} {es : Array DictEntry} {ep : Nat}, s₁.heap.get? b = some o → o.data = .dict es ep → H b = none := fun {b o es ep} e d => by
      cases q : H b with
      | none => rfl
      | some u =>
        have e' : b = a := hA b (by rw [q]; simp)
        subst e'
        rw [ha] at e; cases e
        have d' : Data.seq vs.toArray _ = Data.dict es ep := d
        cases d'
    have nsK : ∀ {b : Addr} {m : Str → Option Value}, s₁.heap.Ns b m → (hidT s₁.heap H).Ns b m := fun {b m} ⟨o, es, ep, e, d, r⟩ => ⟨o, es, ep, base_of e (noA e d), d, r⟩
    have hKb : K.In (hidT s₁.heap H) := fun b o e => base_of (KX b o e) (by
      cases q : H b with
      | none => rfl
      | some u =>
        have e' : b = a := hA b (by rw [q]; simp)
        subst e'
        rw [hK (by rw [q]; simp)] at e; cases e)
    have hM : Mod K mg (hidT s₁.heap H) := ⟨hKb, nsK hns, ⟨mb, nsK hb, hbb⟩, let ⟨mc, h1, h2⟩ := hlim; ⟨mc, nsK h1, h2⟩⟩
    have e0 : Env0 P w K mg (hidT s₁.heap H) callerA [] s₁ H := ⟨rfl, hM, fun b o e => of_hidT e, Nat.le_of_eq (hidT_size _ _), trivial, fun b hb => absurd (show b ∈ ([] : List Addr) from hb) (by simp), hok, .of_eq hg⟩
    refine codeAny_mono ((F _ hKb (nsK hns)).run callerA [] s₁ H ⟨[.ref a], []⟩ [.ref a] [.ref a] _ _ hr e0 (hbind s₁ (.ref a)) (.cons rfl .nil) (hsp H hO hS)) fun r s' h => ?_
    cases r with
    | error e => exact (hCX H e s' h).elim
    | ok fl =>
      cases fl with
      | next => exact False.elim h
      | brk => exact False.elim h
      | cont => exact False.elim h
      | ret u =>
        obtain ⟨v, H', os, bare, un, hok', r', q⟩ := h
        have q' : v = .bl true := q
        subst q'
        obtain rfl : u = Value.bool true := r'
        refine ⟨rfl, OldK.of_keep fun b o e => ?_, os, bare⟩
        cases q : H b with
        | none => exact un.keep b o e q (by intro z; exact absurd (show b ∈ ([] : List Addr) from z) (by simp)) (by simp)
        | some u =>
          rcases hO b with z | ⟨ob, xs, z⟩
          · rw [q] at z; cases z
          · have z2 := un.frzs b ob _ z
            obtain ⟨e1, _⟩ := hok b _ z
            obtain ⟨e2, _⟩ := hok' b _ z2
            rw [e] at e1; cases e1
            exact e2
  cases hk : K.lookup a with
  | some o =>
    -- the script is one of the module's own objects
    have e := KX a o hk
    rw [ha] at e
    cases e
    refine core (fun _ => none) (fun _ => .inl rfl) (.inr ⟨_, vs.toArray, _, hk, rfl, rfl, rfl, by rw [List.size_toArray, lenV]; exact hl, by simpa using rv⟩) (fun b u z => by have z' : (none : Option HO) = some u := z; cases z') (fun b z => absurd rfl z) fun z => absurd rfl z
  | none =>
    refine core (fun b => if b = a then some (.frz { cls := .type "list", data := .seq vs.toArray } (.lst (ns.map V.int))) else none) (fun b => ?_) (.inl (.inr ⟨{ cls := .type "list", data := .seq vs.toArray }, if_pos rfl⟩)) (fun b u z => ?_) (fun b z => ?_) fun _ => hk
    · by_cases hb : b = a
      · exact .inr ⟨_, _, if_pos hb⟩
      · exact .inl (if_neg hb)
    · by_cases hb : b = a
      · have z' := (if_pos hb).symm.trans z
        cases z'
        subst hb
        exact ⟨ha, by rw [List.length_map]; exact hl, vs, _, rv, ha⟩
      · have z' := (if_neg hb).symm.trans z
        cases z'
    · by_cases hb : b = a
      · exact hb
      · exact absurd (if_neg hb) z
end L2
namespace L2
open PySem PySem.Spec PyProof.Rows
abbrev KOf {K : PySem.W.Frag} {h : Heap} (_ : K.In h) : PySem.W.Frag := K
theorem walk_of {l : PySem.W.OpenLaw} {n k : Nat} {q : Program} {loose : List Str} {XP : (Str → Option Value) → Heap → Prop} {YP : World → Heap → Prop} {d : DefRec} {K : Params → PySem.W.Frag} {CX : World → CXT} {sp : World → Sp} {x : Str}
    (hn : l.most = some n) (hn2 : n ≤ sizeLine) (hdf : d.params.defaults = []) (hr : Room k callerA)
    (hY : ∀ (w : World) (h : Heap), YP w h → (K w.params).In h)
    (F : ∀ (w : World) (mg : Str → Option Value) (fa : Addr) (h : Heap), (K w.params).In h → h.Ns mainGlobals mg → mg d.name = some (.ref fa) →
      ∃ fd : FuncData, (∀ (s : Shared) (u : Value), BindsTo s fd ⟨[u], []⟩ [(x, u)]) ∧
        ∀ base : Heap, (K w.params).In base → base.Ns mainGlobals mg → FnOk l.prog w (K w.params) mg base (CX w) k fa fd [x] (sp w))
    (hsp : ∀ (w : World) (H : Hp) (a : Addr) (ns : List Int), ns.length ≤ n → Only H → SqL (K w.params) H a (ns.map V.int) → sp w [.ref a] H (fun v _ => v = .bl true) fun _ _ _ => False)
    (hCX : ∀ (w : World) (H : Hp) (s : Shared) (e : Value) (s' : Shared), CX w [] H s (fun _ _ _ => False) e s' → False) :
    PySem.W.WalkO q loose XP YP l.row.toRowW d [] (fun f vs => PySem.call f vs) := by
  refine Att.attach_call hn hdf fun w s₀ s₁ mg mb fa o pm cd doc a vs ns G Y ho hd hcd hmg hobj hints hlen hg => ?_
  have KX := hY w _ Y
  obtain ⟨fd, hb, hF⟩ := F w mg fa _ KX G.T.g hmg
  exact law_call KX G.T.g G.T.b G.T.builtins G.T.nolimit hg hobj hints (Nat.le_trans hlen hn2) hr hF hb (fun H hO hS => hsp w H a ns hlen hO hS) fun H e s' => hCX w H s₁ e s'
end L2
namespace L2
open PySem PySem.Spec PyProof.Rows
def inClass (s : Stmt) (j : Nat) : Stmt := match s with
  | .ClassDef _ _ _ body _ _ _ _ _ _ _ => body.getD j (.Pass ⟨0, 0, 0, 0⟩)
  | _ => .Pass ⟨0, 0, 0, 0⟩
def defArgs (s : Stmt) : Arguments := match s with
  | .FunctionDef _ a _ _ _ _ _ _ _ _ => a
  | _ => { posonlyargs := [], args := [], vararg := none, kwonlyargs := [], kw_defaults := [], kwarg := none, defaults := [] }
def defBody (s : Stmt) : List Stmt := match s with
  | .FunctionDef _ _ b _ _ _ _ _ _ _ => b
  | _ => []
def defScope (s : Stmt) : Scope := match s with
  | .FunctionDef _ _ _ _ _ _ sc _ _ _ => sc
  | _ => { kind := .function, names := [], isGenerator := false, isCoroutine := false }
abbrev E0 : XK := fun _ _ _ => False
structure Fun (K : PySem.W.Frag) (x qual : Str) (st : Stmt) (f : Addr) (fd : FuncData) : Prop where
  ex : ∃ (oc : Value) (od : Option Addr) (kV doc pm : Value) (an : Option Addr) (cdv ct : Value) (osl : Array (Option Value)),
    fd = PySem.W.fnOf x qual (defArgs st) (defBody st) (defScope st) .none kV doc pm an cdv ct ∧ K.lookup f = some ⟨oc, od, .func fd, osl⟩ ∧ PySem.W.codeIn K cdv qual = true
  kp : PySem.W.keepIn K (.ref f) = true
section
variable {P : Program} {w : World} {K : PySem.W.Frag} {mg : Str → Option Value} {base : Heap}
theorem Fun.binds {x qual : Str} {st : Stmt} {f : Addr} {fd : FuncData} {ps : List Str} (F : Fun K x qual st f fd)
    (h : ∀ (kV doc pm : Value) (an : Option Addr) (cdv ct : Value) (us : List Value), us.length = ps.length → bindArgs (PySem.W.fnOf x qual (defArgs st) (defBody st) (defScope st) .none kV doc pm an cdv ct) ⟨us, []⟩ = pure (ps.zip us)) : Binds K fd ps [] := by
  obtain ⟨oc, od, kV, doc, pm, an, cdv, ct, osl, rfl, lk, hcd⟩ := F.ex
  exact .all (h kV doc pm an cdv ct)
theorem fun_mk {x qual : Str} {st : Stmt} {f : Addr} {oc : Value} {od an : Option Addr} {osl : Array (Option Value)} {kV doc pm cdv ct : Value} (l : K.lookup f = some ⟨oc, od, .func (PySem.W.fnOf x qual (defArgs st) (defBody st) (defScope st) .none kV doc pm an cdv ct), osl⟩)
    (c : PySem.W.codeIn K cdv qual = true) (k : PySem.W.keepIn K (.ref f) = true) : Fun K x qual st f (PySem.W.fnOf x qual (defArgs st) (defBody st) (defScope st) .none kV doc pm an cdv ct) := ⟨⟨oc, od, kV, doc, pm, an, cdv, ct, osl, rfl, l, c⟩, k⟩
end
theorem small1000 {n : Nat} (h : n ≤ 1000) : n < sizeLine := Nat.lt_of_le_of_lt h (by decide)
section
variable {X : Cx}
theorem pv (i : Nat) {x : Str} {pos : Pos} (hN : X.N[i]? = some x := by rfl) (hv : Vis X.env.scope x := by first | exact Or.inl rfl | exact Or.inr (Or.inl rfl) | exact Or.inr (Or.inr rfl)) (hd : (x == ("__debug__" : Str)) = false := by decide)
    (hcd : (x == ("__classdict__" : Str)) = false := by decide) : PE X (.Name x pos) (tVar i) := pe_var hN hv hd hcd
end
theorem iteF {A B : Prop} (h : B) : if false = true then A else B := by
  rw [if_neg Bool.false_ne_true]
  exact h
theorem iteT {A B : Prop} (h : A) : if true = true then A else B := by
  rw [if_pos rfl]
  exact h
theorem ite2 {c A B : Prop} [Decidable c] (h1 : c → A) (h2 : ¬ c → B) : if c then A else B := by
  by_cases h : c
  · rw [if_pos h]
    exact h1 h
  · rw [if_neg h]
    exact h2 h
def Same (H H' : Hp) : Prop := ∀ b o, H b = some o → H' b = some o
theorem Same.refl (H : Hp) : Same H H := fun _ _ h => h
theorem Same.trans {H H1 H2 : Hp} (a : Same H H1) (b : Same H1 H2) : Same H H2 := fun c o h => b c o (a c o h)
theorem Same.free {H H' : Hp} (e : Same H H') {l : Addr} (h : H' l = Option.none) : H l = Option.none := by
  cases q : H l with
  | none => rfl
  | some o =>
    rw [e l o q] at h
    cases h
theorem Same.seq {K : PySem.W.Frag} {H H' : Hp} {a : Addr} {xs : List V} (e : Same H H') (h : SqL K H a xs) : SqL K H' a xs := by
  rcases h with (h | ⟨o, h⟩) | h
  · exact .inl (.inl (e _ _ h))
  · exact .inl (.inr ⟨o, e _ _ h⟩)
  · exact .inr h
end L2
namespace L2
open PySem PySem.Spec PyProof.Rows
section
variable {X : Cx}
def CDivW (_ j : Int) : Prop := j ≠ 0 ∧ j.natAbs.log2 < 9000
theorem op_fdivW : OpR X (binaryOp .FloorDiv) (rI CDivW fun i j => .int (i.fdiv j)) := opI fun _ _ _ _ _ _ _ hc q => floordiv_int hc.1 q (.inl (PyProof.noPylong_of_log2 hc.2))
theorem bits_le {i : Int} {k : Nat} (h : i.natAbs < 2 ^ k) : Builtin.Int.intBits i ≤ k := by
  unfold Builtin.Int.intBits
  split
  · exact Nat.zero_le _
  · rename_i z
    have z' : i.natAbs ≠ 0 := fun e => z (beq_iff_eq.mpr (Int.natAbs_eq_zero.mp e))
    exact (Nat.log2_lt z').mpr h
def CMulW (i j : Int) : Prop := i.natAbs < 2 ^ 10000 ∧ j.natAbs < 2 ^ 10000
theorem CMulW.ok {i j : Int} (h : CMulW i j) : IntMulOk i j := .of_bits (Nat.le_trans (bits_le h.1) (by decide)) (Nat.le_trans (bits_le h.2) (by decide))
theorem op_mulW : OpR X (binaryOp .Mult) (rI CMulW fun i j => .int (i * j)) := opI fun _ _ _ _ _ _ _ hc q => mul_int q hc.ok
end
mutual
inductive DV (K : PySem.W.Frag) (H : Hp) : V → PyData → Prop
  | non : DV K H .non .none
  | bl (b : Bool) : DV K H (.bl b) (.bool b)
  | int (i : Int) : DV K H (.int i) (.int i)
  | str (x : Str) : DV K H (.str x) (.str x)
  | lst {a : Addr} {xs : List V} {ds : List PyData} : SqL K H a xs → DVs K H xs ds → DV K H (.ref a) (.list ds)
  | tup {a : Addr} {xs : List V} {ds : List PyData} : SqT K H a xs → DVs K H xs ds → DV K H (.ref a) (.tuple ds)
  | dct {a : Addr} {kvs : List (Key × V)} : H a = some (.dK kvs) → DV K H (.ref a) (.dict [])
inductive DVs (K : PySem.W.Frag) (H : Hp) : List V → List PyData → Prop
  | nil : DVs K H [] []
  | cons {v : V} {vs : List V} {d : PyData} {ds : List PyData} : DV K H v d → DVs K H vs ds → DVs K H (v :: vs) (d :: ds)
end
section
variable {X : Cx} {pins : List (Addr × Obj)} {σ : St} {H : Hp} {s : Shared}
mutual
theorem DV.reads (I : Inv X pins σ H s) : ∀ {v : V} {d : PyData}, DV X.K H v d → d.canLay0 = true → ∀ {u : Value}, RelV v u → ∃ as, Reads s.heap u d as
  | _, _, .non, _, _, r => by cases r; exact ⟨_, .none⟩
  | _, _, .bl b, _, _, r => by cases r; exact ⟨_, .bool b⟩
  | _, _, .int i, _, _, r => by obtain ⟨t, rfl⟩ := r; exact ⟨_, .int i t⟩
  | _, _, .str x, _, _, r => by obtain ⟨t, rfl⟩ := r; exact ⟨_, .str x t⟩
  | _, _, .lst h q, c, _, r => by
    cases r
    obtain ⟨its, rv, pl, _⟩ := I.list h
    obtain ⟨as, ra⟩ := DVs.reads I q c rv
    obtain ⟨o, ho, hc, n, hd⟩ := id pl.isList
    exact ⟨_, .list ho hc hd ra⟩
  | _, _, .tup h q, c, _, r => by
    cases r
    obtain ⟨its, rv, pl, _⟩ := I.tuple h
    obtain ⟨as, ra⟩ := DVs.reads I q c rv
    obtain ⟨o, ho, hc, n, hd⟩ := id pl
    exact ⟨_, .tuple ho hc hd ra⟩
  | _, _, .dct h, c, _, r => nomatch c
theorem DVs.reads (I : Inv X pins σ H s) : ∀ {vs : List V} {ds : List PyData}, DVs X.K H vs ds → PyData.canLayAll0 ds = true → ∀ {us : List Value}, Vals vs us → ∃ as, ReadsAll s.heap us ds as
  | _, _, .nil, _, _, r => by cases r; exact ⟨_, .nil⟩
  | _, _, .cons h q, c, _, r => by
    rw [PyData.canLayAll0] at c
    cases r with
    | cons r1 r2 =>
      obtain ⟨a1, z1⟩ := DV.reads I h (Bool.and_eq_true_iff.mp c).1 r1
      obtain ⟨a2, z2⟩ := DVs.reads I q (Bool.and_eq_true_iff.mp c).2 r2
      exact ⟨_, .cons z1 z2⟩
end
end
section
variable {X : Cx}
def rNeD (K : PySem.W.Frag) : R2 := fun x y H Q => ∃ d e, DV K H x d ∧ DV K H y e ∧ SeqAt.shaped d = true ∧ SeqAt.shaped e = true ∧ Q (.bl (!PyData.eqv d e)) H
theorem op_neD (hu : X.A.units + 64 < cLine) : OpR X (compareOp .NotEq) (rNeD X.K) := by
  intro pins s σ H x y v u Q I rx ry h
  obtain ⟨d, e, hd, he, sd, se, q⟩ := h
  obtain ⟨a1, r1⟩ := hd.reads I (SeqAt.canLay_of_shaped sd) rx
  obtain ⟨a2, r2⟩ := he.reads I (SeqAt.canLay_of_shaped se) ry
  exact ne_dataH r1 r2 sd se hu ⟨.bl _, H, I, rfl, q⟩
end
structure TopFn (K : PySem.W.Frag) (mg : Str → Option Value) (x : Str) (st : Stmt) : Prop where
  ex : ∃ (f : Addr) (fd : FuncData), Fun K x x st f fd ∧ mg x = some (.ref f)
theorem same_new {H : Hp} {p : Addr} (h : H p = none) (o : HO) : Same H (upd H p o) := fun b u q => by rw [upd_ne (ne_of_none q h)]; exact q
end L2
namespace L2
open PySem PySem.Spec PyProof.Rows
theorem bt_int : bootBuiltins "int" = some (.type "int") := by decide +kernel
theorem bt_bool : bootBuiltins "bool" = some (.type "bool") := by decide +kernel
theorem bt_tuple : bootBuiltins "tuple" = some (.type "tuple") := by decide +kernel
theorem bt_list : bootBuiltins "list" = some (.type "list") := by decide +kernel
theorem bt_str : bootBuiltins "str" = some (.type "str") := by decide +kernel
theorem bt_len : bootBuiltins "len" = some (.builtin "len") := by decide +kernel
theorem bt_abs : bootBuiltins "abs" = some (.builtin "abs") := by decide +kernel
theorem bt_all : bootBuiltins "all" = some (.builtin "all") := by decide +kernel
theorem bt_isinstance : bootBuiltins "isinstance" = some (.builtin "isinstance") := by decide +kernel
theorem bt_reversed : bootBuiltins "reversed" = some (.type "reversed") := by decide +kernel
def bsub (t T : String) : Option Bool := if (Value.type t == Value.type T) = true then some true else if PySem.W.kitMeta T = true then (fastBuiltinMro t).map (·.contains (Value.type T)) else none
theorem kit_b {K : PySem.W.Frag} {t T : String} {b : Bool} (h : bsub t T = some b) : PySem.W.kitOne K (.type t) (.type T) = some b := h
theorem topFn_mk {K : PySem.W.Frag} {h : Heap} {mg : Str → Option Value} {x : Str} {st : Stmt} {f : Addr} {oc : Value} {od an : Option Addr} {sl : Array (Option Value)} {kV dc pm cd ct : Value} (X : K.In h) (G : h.Ns mainGlobals mg)
    (a : PySem.W.nsIn K mainGlobals x = some (some (.ref f))) (l : K.lookup f = some ⟨oc, od, .func (PySem.W.fnOf x x (defArgs st) (defBody st) (defScope st) .none kV dc pm an cd ct), sl⟩) (c : PySem.W.codeIn K cd x = true) (k : PySem.W.keepIn K (.ref f) = true) : TopFn K mg x st :=
  ⟨f, _, fun_mk l c k, PySem.W.mg_of X G a⟩
section
variable {X : Cx} {es : List Expr} {te : TE} {t : TA}
theorem pa_const {c : Const} {j : Nat} {p : Pos} (ha : PE X (.Constant c j p) te) (hr : PA X es t) : PA X (.Constant c j p :: es) (tCons te t) := pa_cons ha hr (by rfl)
theorem pa_name {x : Str} {p : Pos} (ha : PE X (.Name x p) te) (hr : PA X es t) : PA X (.Name x p :: es) (tCons te t) := pa_cons ha hr (by rfl)
theorem pa_tuple {xs : List Expr} {k : Nat} {p : Pos} (ha : PE X (.Tuple xs k p) te) (hr : PA X es t) : PA X (.Tuple xs k p :: es) (tCons te t) := pa_cons ha hr (by rfl)
theorem pa_call {f : Expr} {as : List Expr} {kw : List Keyword} {p : Pos} (ha : PE X (.Call f as kw p) te) (hr : PA X es t) : PA X (.Call f as kw p :: es) (tCons te t) := pa_cons ha hr (by rfl)
theorem pa_bin {a : Expr} {o : Operator} {b : Expr} {p : Pos} (ha : PE X (.BinOp a o b p) te) (hr : PA X es t) : PA X (.BinOp a o b p :: es) (tCons te t) := pa_cons ha hr (by rfl)
theorem pa_cmp {a : Expr} {os : List CmpOp} {bs : List Expr} {p : Pos} (ha : PE X (.Compare a os bs p) te) (hr : PA X es t) : PA X (.Compare a os bs p :: es) (tCons te t) := pa_cons ha hr (by rfl)
theorem pa_sub {a b : Expr} {p : Pos} (ha : PE X (.Subscript a b p) te) (hr : PA X es t) : PA X (.Subscript a b p :: es) (tCons te t) := pa_cons ha hr (by rfl)
theorem pa_if {a b c : Expr} {p : Pos} (ha : PE X (.IfExp a b c p) te) (hr : PA X es t) : PA X (.IfExp a b c p :: es) (tCons te t) := pa_cons ha hr (by rfl)
end
end L2
namespace L2
open PySem PySem.Spec PyProof.Rows
theorem dict_mf (o : Obj) (f : Array Value → Array Value) : (o.mapFields f).dict = o.dict := by
  obtain ⟨c, d, dt, sl⟩ := o; cases dt <;> rfl
inductive Chn (h : Heap) : Value → Prop
  | none : Chn h .none
  | ref {b : Addr} {o : Obj} {vs : Array Value} {cx : Value} : h.get? b = some o → o.data = .fields vs → vs[2]? = some cx → Chn h cx → Chn h (.ref b)
theorem Chn.mono {h h' : Heap} (k : ∀ b o vs, h.get? b = some o → o.data = .fields vs → ∃ o' vs', h'.get? b = some o' ∧ o'.data = .fields vs' ∧ vs'[2]? = vs[2]?) {v : Value} (c : Chn h v) : Chn h' v := by
  induction c with
  | none => exact .none
  | ref e d t _ ih =>
    obtain ⟨o', vs', e', d', t'⟩ := k _ _ _ e d
    exact .ref e' d' (t'.trans t) ih
def Trc (base : Heap) (e : Addr) (c : Value) (d : Option Addr) (fl : Value) (h : Heap) : Prop :=
  ∃ (o oT : Obj) (vs ts : Array Value) (T : Addr), h.get? e = some o ∧ o.cls = c ∧ o.dict = d ∧ o.data = .fields vs ∧ vs[1]? = some (.ref T) ∧ base.get? T = none ∧ T ≠ e ∧ h.get? T = some oT ∧ oT.data = .fields ts ∧ ts[3]? = some fl ∧ ∃ cx, vs[2]? = some cx ∧ Chn h cx
def FlyD (base : Heap) (l : List Env) (e : Addr) (c : Value) (d : Option Addr) (fl : Value) (h : Heap) : Prop :=
  base.StaysIn h ∧ base.get? e = none ∧ h.FunFrames base l ∧ Trc base e c d fl h
theorem FlyD.there {base h : Heap} {l : List Env} {e : Addr} {c : Value} {d : Option Addr} {fl : Value} (x : FlyD base l e c d fl h) : ∃ ob, h.get? e = some ob ∧ ob.cls = c ∧ ob.dict = d ∧ ∃ vs, ob.data = .fields vs := by
  obtain ⟨_, _, _, o, _, vs, _, _, h1, h2, h3, h4, _⟩ := x
  exact ⟨o, h1, h2, h3, vs, h4⟩
theorem FlyD.pop {base h : Heap} {env : Env} {l : List Env} {e : Addr} {c : Value} {d : Option Addr} {fl : Value} (x : FlyD base (env :: l) e c d fl h) : FlyD base l e c d fl h := ⟨x.1, x.2.1, x.2.2.1.2.2, x.2.2.2⟩
section
variable {M : Model} {A : Around} {E : Value → Shared → Prop} {s : Shared} {base : Heap} {env : Env} {outer l : List Env} {L e : Addr} {c : Value} {d : Option Addr}
theorem note_new {o : Obj} {vs : Array Value} {head : Value} {hn : Bool} {Q : Unit → Shared → Prop} (hfr : A.frames = some (env :: outer)) (hf : env.frame = some L) (st : base.StaysIn s.heap) (ne : base.get? e = none)
    (fr : s.heap.FunFrames base (env :: outer)) (he : s.heap.get? e = some o) (hd : o.data = .fields vs) (hz : 1 < vs.size) (hcx : ∃ cx, vs[2]? = some cx ∧ Chn s.heap cx)
    (h : ∀ h', FlyD base (env :: outer) e o.cls o.dict (rawInt L) h' → s.heap.UpToSlots h' → Q () { s with heap := h' }) :
    wpAny M A (frameOf env >>= fun a => entryPlaceOf L hn >>= fun pl => EntryCells.newEntry head a .none (rawInt L) .none pl >>= fun b => setField (.ref e) 1 b) Q E s := by
  have eL : e ∉ (env :: outer).filterMap (·.frame) := fun m => by
    obtain ⟨_, u, hu, nf⟩ := fr.mem m
    rw [he] at hu; cases hu; exact nf vs hd
  refine wpAny_bind (wpAny_frameOf_fun hfr fr hf fun h1 so => wpAny_bind (wpAny_entryPlaceOf fun pl hp => ?_))
  have he1 : h1.get? e = some o := (so.2.1 e eL).trans he
  have Te : h1.objs.size ≠ e := Nat.ne_of_gt (Heap.lt_size he1)
  have st1 : base.StaysIn h1 := fun b u q => (so.2.1 b fun m => by rw [(fr.mem m).1] at q; cases q).trans (st b u q)
  have key : ∀ (oT : Obj) (ts : Array Value), oT.data = .fields ts → ts[3]? = some (rawInt L) → wpAny M A (setField (.ref e) 1 (.ref h1.objs.size)) Q E { s with heap := h1.push oT } := by
    intro oT ts dT t3
    have he2 := Heap.get?_push_of_some (h := h1) oT he1
    have hT2 : (h1.push oT).get? h1.objs.size = some oT := Heap.get?_push_size h1 (Obj.isFreed_of_fields dT)
    have oth : ∀ b u, b ≠ e → h1.get? b = some u → ((h1.push oT).update e (Obj.mapFields (·.setIfInBounds 1 (Value.ref h1.objs.size)))).get? b = some u := fun b u n q => by
      rw [Heap.get?_update_other _ _ (Ne.symm n)]; exact Heap.get?_push_of_some _ q
    have nrec : ∀ b u, s.heap.get? b = some u → (∀ xs, u.data ≠ .fields xs) → b ≠ e := fun b u q nf z => by
      subst z; rw [he] at q; cases q; exact nf vs hd
    refine wpAny_setField he2 hd hz (h _ ⟨fun b u q => oth b u (fun z => by rw [z, ne] at q; cases q) (st1 b u q), ne, fr.of_keeps fun b u q nf => ?_, _, oT, _, ts, h1.objs.size,
      Heap.get?_update_self _ he2 (Obj.isFreed_of_fields (Obj.data_mapFields hd _)), Obj.cls_mapFields _ _, dict_mf _ _, Obj.data_mapFields hd _, by simp [hz], st1.fresh, Te, ?_, dT, t3, ?_⟩ fun b u q nf => ?_)
    · obtain ⟨sl, z⟩ := so.2.2 b u q
      exact ⟨_, oth b _ (nrec b u q nf) z, rfl⟩
    · rw [Heap.get?_update_other _ _ (Ne.symm Te)]; exact hT2
    · obtain ⟨cx, c1, c2⟩ := hcx
      refine ⟨cx, by rw [Array.getElem?_setIfInBounds_ne (by decide)]; exact c1, c2.mono fun b u us q d => ?_⟩
      by_cases hb : b = e
      · subst hb
        rw [he] at q
        cases q
        rw [hd] at d
        cases d
        exact ⟨_, _, Heap.get?_update_self _ he2 (Obj.isFreed_of_fields (Obj.data_mapFields hd _)), Obj.data_mapFields hd _, Array.getElem?_setIfInBounds_ne (by decide)⟩
      · have nb : b ∉ (env :: outer).filterMap (·.frame) := fun m => by
          obtain ⟨_, u', hu, nf⟩ := fr.mem m
          rw [q] at hu; cases hu; exact nf us d
        exact ⟨u, us, oth b u hb ((so.2.1 b nb).trans q), d, rfl⟩
    · obtain ⟨sl, z⟩ := so.2.2 b u q
      exact ⟨sl, oth b _ (nrec b u q nf) z⟩
  unfold EntryCells.newEntry newFields; refine wpAny_bind (wpAny_newObj_type (key _ _ rfl ?_) (hp.sizeOk5 _ _ _ _ _))
  rcases hp with rfl | ⟨_, _, _, _, _, _, _, rfl⟩ <;> simp
theorem fl_none {fl : Value} {Q : Unit → Shared → Prop} (x : FlyD base l e c d fl s.heap) (h : ∀ h', FlyD base l e c d .none h' → s.heap.UpToSlots h' → Q () { s with heap := h' }) :
    wpAny M A (setFlight (.ref e) none) Q E s := by
  obtain ⟨st, ne, fr, o, oT, vs, ts, T, he, hc, hdd, hd, h1, nT, Te, hT, dT, h3, cx, c1, c2⟩ := x
  have z3 : 3 < ts.size := (Array.getElem?_eq_some_iff.mp h3).1
  have oth : ∀ b, b ≠ T → (s.heap.update T (Obj.mapFields (·.setIfInBounds 3 Value.none))).get? b = s.heap.get? b := fun b n => Heap.get?_update_other _ _ (Ne.symm n)
  have nrec : ∀ b u, s.heap.get? b = some u → (∀ xs, u.data ≠ .fields xs) → b ≠ T := fun b u q nf z => by
    subst z; rw [hT] at q; cases q; exact nf ts dT
  have kT : Chn (s.heap.update T (Obj.mapFields (·.setIfInBounds 3 Value.none))) cx := c2.mono fun b u us q d => by
    by_cases hb : b = T
    · subst hb
      rw [hT] at q
      cases q
      exact ⟨_, _, Heap.get?_update_self _ hT (Obj.isFreed_of_fields (Obj.data_mapFields d _)), Obj.data_mapFields d _, Array.getElem?_setIfInBounds_ne (by decide)⟩
    · exact ⟨u, us, (oth b hb).trans q, d, rfl⟩
  unfold setFlight; refine wpAny_bind (wpAny_field he hd h1 ?_)
  rw [if_pos (show (Value.ref T != Value.none) = true by simp)]
  refine wpAny_setField hT dT z3 (h _ ⟨fun b u q => (oth b fun z => by rw [z, nT] at q; cases q).trans (st b u q), ne, fr.of_keeps fun b u q nf => ⟨u, (oth b (nrec b u q nf)).trans q, rfl⟩,
    o, _, vs, _, T, (oth e (Ne.symm Te)).trans he, hc, hdd, hd, h1, nT, Te, Heap.get?_update_self _ hT (Obj.isFreed_of_fields (Obj.data_mapFields dT _)), Obj.data_mapFields dT _, by simp [z3], cx, c1, kT⟩ fun b u q nf => ⟨u.slots, (oth b (nrec b u q nf)).trans q⟩)
theorem note_next {Q : Unit → Shared → Prop} (hfr : A.frames = some (env :: outer)) (hf : env.frame = some L) (x : FlyD base (env :: outer) e c d .none s.heap)
    (h : ∀ h', FlyD base (env :: outer) e c d (rawInt L) h' → s.heap.UpToSlots h' → Q () { s with heap := h' }) : wpAny M A (noteFrame (.ref e) env) Q E s := by
  obtain ⟨st, ne, fr, o, oT, vs, ts, T, he, hc, hdd, hd, h1, nT, Te, hT, dT, h3, cx, c1, c2⟩ := x
  subst hc hdd
  have oth : ∀ b, b ≠ T → (s.heap.update T (Obj.mapFields (·.setIfInBounds 3 Value.none))).get? b = s.heap.get? b := fun b n => Heap.get?_update_other _ _ (Ne.symm n)
  have nrec : ∀ b u, s.heap.get? b = some u → (∀ xs, u.data ≠ .fields xs) → b ≠ T := fun b u q nf z => by
    subst z; rw [hT] at q; cases q; exact nf ts dT
  have kT : Chn (s.heap.update T (Obj.mapFields (·.setIfInBounds 3 Value.none))) cx := c2.mono fun b u us q d => by
    by_cases hb : b = T
    · subst hb
      rw [hT] at q
      cases q
      exact ⟨_, _, Heap.get?_update_self _ hT (Obj.isFreed_of_fields (Obj.data_mapFields d _)), Obj.data_mapFields d _, Array.getElem?_setIfInBounds_ne (by decide)⟩
    · exact ⟨u, us, (oth b hb).trans q, d, rfl⟩
  unfold noteFrame; simp only [hf]; refine wpAny_bind (wpAny_field he hd h1 ?_)
  rw [if_pos (show (Value.ref T != Value.none) = true by simp)]; refine wpAny_bind (wpAny_field hT dT h3 ?_)
  rw [if_neg (show ¬ ((Value.none == rawInt L) = true) by simp [rawInt])]; refine wpAny_bind (wpAny_setField hT dT (Array.getElem?_eq_some_iff.mp h3).1 ?_)
  refine note_new (s := { s with heap := s.heap.update T (Obj.mapFields (·.setIfInBounds 3 Value.none)) }) hfr hf (fun b u q => (oth b fun z => by rw [z, nT] at q; cases q).trans (st b u q)) ne (fr.of_keeps fun b u q nf => ⟨u, (oth b (nrec b u q nf)).trans q, rfl⟩)
    ((oth e (Ne.symm Te)).trans he) hd (Array.getElem?_eq_some_iff.mp h1).1 ⟨cx, c1, kT⟩ fun h' f up => h h' f fun b u q nf => up b u ((oth b (nrec b u q nf)).trans q) nf
theorem note_first {o : Obj} {vs : Array Value} {Q : Unit → Shared → Prop} (hfr : A.frames = some (env :: outer)) (hf : env.frame = some L) (st : base.StaysIn s.heap) (ne : base.get? e = none)
    (fr : s.heap.FunFrames base (env :: outer)) (he : s.heap.get? e = some o) (hd : o.data = .fields vs) (h1 : vs[1]? = some .none) (hcx : ∃ cx, vs[2]? = some cx ∧ Chn s.heap cx)
    (h : ∀ h', FlyD base (env :: outer) e o.cls o.dict (rawInt L) h' → s.heap.UpToSlots h' → Q () { s with heap := h' }) : wpAny M A (noteFrame (.ref e) env) Q E s := by
  unfold noteFrame; simp only [hf]; refine wpAny_bind (wpAny_field he hd h1 ?_)
  rw [if_neg (by decide)]
  exact note_new hfr hf st ne fr he hd (Array.getElem?_eq_some_iff.mp h1).1 hcx h
theorem leave_first {o : Obj} {vs : Array Value} {Q : Unit → Shared → Prop} (hfr : A.frames = some (env :: outer)) (hf : env.frame = some L) (st : base.StaysIn s.heap) (ne : base.get? e = none)
    (fr : s.heap.FunFrames base (env :: outer)) (he : s.heap.get? e = some o) (hd : o.data = .fields vs) (h1 : vs[1]? = some .none) (hcx : ∃ cx, vs[2]? = some cx ∧ Chn s.heap cx)
    (h : ∀ h', FlyD base outer e o.cls o.dict .none h' → s.heap.UpToSlots h' → Q () { s with heap := h' }) : wpAny M A (leaving env (.ref e)) Q E s :=
  wpAny_bind (note_first hfr hf st ne fr he hd h1 hcx fun h1 f1 u1 => fl_none (s := { s with heap := h1 }) f1 fun h2 f2 u2 => h h2 f2.pop (u1.trans u2))
theorem leave_next {Q : Unit → Shared → Prop} (hfr : A.frames = some (env :: outer)) (hf : env.frame = some L) (x : FlyD base (env :: outer) e c d .none s.heap)
    (h : ∀ h', FlyD base outer e c d .none h' → s.heap.UpToSlots h' → Q () { s with heap := h' }) : wpAny M A (leaving env (.ref e)) Q E s :=
  wpAny_bind (note_next hfr hf x fun h1 f1 u1 => fl_none (s := { s with heap := h1 }) f1 fun h2 f2 u2 => h h2 f2.pop (u1.trans u2))
end
end L2
namespace L2
open PySem PySem.Spec PyProof.Rows
theorem ObjOk.some_of {P : Program} {w : World} {H : Hp} {h : Heap} {a : Addr} {o : HO} (x : ObjOk P w H h a o) : ∃ u, h.get? a = some u := by
  cases o with
  | lst xs => obtain ⟨_, _, _, _, e⟩ := x; exact ⟨_, e⟩
  | tup xs => obtain ⟨_, _, _, p⟩ := x; obtain ⟨o, e, _⟩ := p; exact ⟨_, e⟩
  | dK kvs => obtain ⟨_, _, _, _, o, _, _, e, _⟩ := x; exact ⟨_, e⟩
  | dT kvs => obtain ⟨_, _, _, _, o, _, _, e, _⟩ := x; exact ⟨_, e⟩
  | set S n => obtain ⟨o, _, _, _, e, _⟩ := x; exact ⟨_, e⟩
  | ins C dx fs => obtain ⟨_, _, _, e, _⟩ := x; exact ⟨_, e⟩
  | own y => obtain ⟨_, e⟩ := x; exact ⟨_, e⟩
  | xd fs => obtain ⟨_, ⟨_, _, _, e, _⟩, _⟩ := x; exact ⟨_, e⟩
  | rng lo hi => obtain ⟨_, _, _, e⟩ := x; exact ⟨_, e⟩
  | frz ob u => obtain ⟨e, _⟩ := x; exact ⟨_, e⟩
  | tbl ps => exact ⟨_, (show h.get? a = some _ from x)⟩
  | met f y => exact ⟨_, (show h.get? a = some _ from x)⟩
  | ext φ => obtain ⟨_, ⟨_, e⟩, _⟩ := x; exact ⟨_, e⟩
theorem HOk.none_of {P : Program} {w : World} {H : Hp} {h : Heap} {a : Addr} (x : HOk P w H h) (e : h.get? a = none) : H a = none := by
  cases q : H a with
  | none => rfl
  | some o =>
    obtain ⟨u, z⟩ := (x a o q).some_of
    rw [e] at z
    cases z
def CX1 (P : Program) (w : World) : CXT := fun outer H s E e s' => ∃ (a C : Addr) (d : Option Addr) (H' : Hp) (B : Heap), e = .ref a ∧ s'.os = s.os ∧ AllBare s'.gens ∧
  (∀ h'' : Heap, B.StaysIn h'' → s'.heap.UpToSlots h'' → Un (frs outer) [] H H' s.heap h'' ∧ HOk P w H' h'') ∧ FlyD B outer a (.ref C) d .none s'.heap ∧ H' a = none ∧ s.heap.get? a = none ∧ E (.ref C) d H'
structure BodyCx (X : Cx) (E : XK) : Prop where
  stk : X.stack = X.env :: X.outer
  fr : X.env.frame = some X.env.locals
  ex : X.ex = []
  xe : X.xe = fun e s' => wpAny (model X.prog X.w) X.A (leaving X.env e) (fun _ s'' => CX1 X.prog X.w X.outer X.H₀ X.s₀ E e s'') (fun e' s'' => CX1 X.prog X.w X.outer X.H₀ X.s₀ E e' s'') s'
section
variable {X : Cx} {pins : List (Addr × Obj)} {σ : St} {H : Hp} {s : Shared}
theorem mem_stack {E : XK} (Bd : BodyCx X E) {b : Addr} : b ∈ frs X.stack ↔ b = X.env.locals ∨ b ∈ frs X.outer := by
  rw [Bd.stk]
  show b ∈ List.filterMap (·.frame) (X.env :: X.outer) ↔ _
  rw [List.filterMap_cons, Bd.fr]
  exact List.mem_cons
theorem clo_of {E : XK} (Bd : BodyCx X E) (I : Inv X pins σ H s) {h1 h2 : Heap} (k : ∀ b o, s.heap.get? b = some o → h1.get? b = some o) (up : h1.UpToSlots h2) (h'' : Heap)
    (st : (PySem.W.hideAll s.heap (frs X.stack)).StaysIn h'') (up2 : h2.UpToSlots h'') : Un (frs X.outer) [] X.H₀ H X.s₀.heap h'' ∧ HOk X.prog X.w H h'' := by
  have inB : ∀ b o, s.heap.get? b = some o → b ∉ frs X.stack → h''.get? b = some o := fun b o e n => st b o (PySem.W.hideAll_get _ e n)
  have sl : ∀ b o, s.heap.get? b = some o → b ∈ frs X.stack → ∃ sl, h''.get? b = some { o with slots := sl } := fun b o e m => by
    obtain ⟨_, o', ho', hnf⟩ := I.stack.mem m
    rw [e] at ho'
    cases ho'
    exact (up.trans up2) b o (k b o e) hnf
  have nx : ∀ b : Addr, b ∉ X.ex := fun b z => by rw [Bd.ex] at z; cases z
  have neL : ∀ b o, X.s₀.heap.get? b = some o → b ≠ X.env.locals := fun b o e => Nat.ne_of_lt (Nat.lt_of_lt_of_le (Heap.lt_size e) I.ok.above)
  have any : ∀ b o, s.heap.get? b = some o → ∃ o', h''.get? b = some o' := fun b o e => by
    by_cases m : b ∈ frs X.stack
    · obtain ⟨z, q⟩ := sl b o e m
      exact ⟨_, q⟩
    · exact ⟨_, inB b o e m⟩
  refine ⟨⟨fun b o e n hb _ => ?_, fun b o e n hb _ => ?_, fun b o e n _ => I.base.free b o e n (nx b), fun b o e _ => ?_, I.base.tups, I.base.frzs, I.base.tbls⟩, fun a o e => ?_⟩
  · exact inB b o (I.base.keep b o e n hb (nx b)) fun m => (mem_stack Bd).mp m |>.elim (neL b o e) hb
  · obtain ⟨z, q⟩ := I.base.slot b o e n hb (nx b)
    obtain ⟨z', q'⟩ := sl b _ q ((mem_stack Bd).mpr (.inr hb))
    exact ⟨z', q'⟩
  · obtain ⟨o', q⟩ := I.base.there b o e (nx b)
    exact any b o' q
  · refine (I.hok a o e).stay (fun b u hc q => inB b u q fun m => ?_) (fun _ q => q) fun _ _ q => q
    have z := I.stkFree b m
    rcases hc with rfl | hc
    · rw [z] at e; cases e
    · rw [z] at hc; cases hc
theorem inv_behind {H' : Hp} {h'' : Heap} {s' : Shared} (I : Inv X pins σ H s) (ho : s'.os = s.os) (hg : AllBare s'.gens) (u : Un (frs X.stack) [] H H' s.heap h'' ∧ HOk X.prog X.w H' h'') : Inv X pins σ H' { s' with heap := h'' } :=
  I.call' (s' := { s' with heap := h'' }) (ch := []) ho u.1 u.2 hg fun b z => nomatch z
theorem new0 (I : Inv X pins σ H s) (nx : ∀ b : Addr, b ∉ X.ex) {a : Addr} (e : s.heap.get? a = none) : X.s₀.heap.get? a = none := by
  cases q : X.s₀.heap.get? a with
  | none => rfl
  | some o =>
    obtain ⟨o', z⟩ := I.base.there a o q (nx a)
    rw [e] at z
    cases z
theorem passes1 {E : XK} (Bd : BodyCx X E) : Passes (CX1 X.prog X.w) X E := by
  intro pins σ H s e s' I h
  obtain ⟨a, C, t, H', B, rfl, os, bare, clo, fly, na, nw, q⟩ := h
  rw [Bd.xe]
  have hfr : X.A.frames = some (X.env :: X.outer) := by rw [← Bd.stk]; exact I.ok.frames
  have fly' : FlyD B (X.env :: X.outer) a (.ref C) t .none s'.heap := by rw [← Bd.stk]; exact fly
  refine leave_next hfr Bd.fr fly' fun h' f1 up => ?_
  have nx : ∀ b : Addr, b ∉ X.ex := fun b z => by rw [Bd.ex] at z; cases z
  have J0 : ∀ h'' : Heap, B.StaysIn h'' → h'.UpToSlots h'' → Inv X pins σ H' { s' with heap := h'' } := fun h'' st up2 => inv_behind I os bare (clo h'' st (up.trans up2))
  have os0 : s'.os = X.s₀.os := os.trans I.os
  refine ⟨a, C, t, H', B, rfl, os0, bare, fun h'' st up2 => ?_, f1, na, new0 I nx nw, q⟩
  have J := J0 h'' st up2
  have u := J.base
  rw [Bd.ex] at u
  exact ⟨u, J.hok⟩
end
theorem exc_obj {K : PySem.W.Frag} {h₀ : Heap} {C : Addr} {bmB : List Value} {newId : String} (X : K.In h₀) (q : PySem.W.excIn K C bmB newId = true) :
    ∃ bm N nm q bs hdct sn sub ab col dd k0 k1 k2 k3 k5 mN, h₀.get? C = some (excClassObj nm q C N bs bm hdct sn sub ab col dd k0 k1 k2 k3 k5 newId) ∧ h₀.Ns N mN ∧ mN "__init__" = none ∧ OwnTail h₀ bmB bm := by
  unfold PySem.W.excIn at q
  split at q
  · rename_i dd cd sl ho
    split at q
    · rename_i C' bm k0 k1 k2 k3 n k5 hm hs
      simp only [Bool.and_eq_true, beq_iff_eq, Bool.not_eq_true'] at q
      obtain ⟨⟨⟨⟨⟨rfl, rfl⟩, hdel⟩, ht⟩, hok⟩, hni⟩ := q
      obtain ⟨nm, bs, mro, ns, qn, hd, sn, sub, ab, col, del⟩ := cd
      dsimp only at hm hdel hok hni
      subst hm hdel
      have hsl : sl = #[k0, k1, k2, k3, some (.builtin n), k5] := by
        obtain ⟨l⟩ := sl
        simp only at hs
        rw [hs]
      subst hsl
      exact ⟨bm, ns, nm, qn, bs, hd, sn, sub, ab, col, dd, k0, k1, k2, k3, k5, _, X _ _ ho, .of_isNs (PySem.W.isNs_of_in X hok), PySem.W.nsMap_none_of_in X hok hni, PySem.W.tail_of_in X ht⟩
    · cases q
  · cases q
structure ExcCls (K : PySem.W.Frag) (mg : Str → Option Value) (x : Str) (C : Addr) : Prop where
  mg : mg x = some (.ref C)
  ob : PySem.W.excIn K C [.type "ValueError", .type "Exception", .type "BaseException", .type "object"] "ValueError.__new__" = true
section
variable {X : Cx} {x : Str} {C : Addr} {e₀ : Expr} {t : TA} {np cpos pos : Pos}
def tRaise (E : XK) (C : Addr) (t : TA) : TS := fun _ σ H => t σ H fun vs H1 => vs.length ≤ sizeLine ∧ E (.ref C) none H1
theorem ps_raise {E : XK} (Bd : BodyCx X E) (hc : X.calm = true) (O : ExcCls X.K X.mg x C) (ha : PA X [e₀] t) (hg : Gl X x := by rfl) (hdb : (x == ("__debug__" : Str)) = false := by decide)
    (he : starEach [e₀] X.env = [(false, eval e₀ X.env)] := by rfl) :
    PS X (.Raise (some (.Call (.Name x np) [e₀] [] cpos)) none pos) (tRaise E C t) := by
  intro pins s σ H D I h
  obtain ⟨bm, N, nm, qn, bs, hdct, sn, sub, ab, col, dd, k0, k1, k2, k3, k5, mN, hC, hN, hni, TL⟩ := exc_obj I.ok.mod.kin O.ob
  have hbase : bm.contains (.type "BaseException") = true := TL.hasType (X := "BaseException") (by decide +kernel)
  have hpl : (backTo cpos (starEach [e₀] X.env)).any (·.1) = false := by rw [he]; rfl
  refine wpAny_Raise_call_subT (nm := nm) (q := qn) (N := N) (bs := bs) (hdct := hdct) (sn := sn) (sub := sub) (ab := ab) (col := col) (dd := dd) (k0 := k0) (k1 := k1) (k2 := k2) (k3 := k3) (k5 := k5) F.excBase_ValueError hbase (I.ok.hd hc) hpl hni (ld_glob I hg O.mg ⟨rfl, ?_⟩ hdb)
  have h1 := ha cpos pins s σ H _ I h
  rw [he] at h1 ⊢
  refine Calls.evalArgs_plain (thn h1 fun us s2 ⟨vs, H2, I2, r, hl, q⟩ => ⟨rfl, by rw [← r.length]; exact hl, I2.bk _ _ hC, hN.keeps I2.bk, TL.keeps I2.bk, fun h' e hm => ?_⟩)
  rw [Bd.xe]
  have hfr : X.A.frames = some (X.env :: X.outer) := by rw [← Bd.stk]; exact I.ok.frames
  have hin : ∀ env ∈ X.stack, ∀ b, env.frame = some b → b ∈ frs X.stack := fun env he b hb => List.mem_filterMap.mpr ⟨env, he, hb⟩
  have ff : s2.heap.FunFrames (PySem.W.hideAll s2.heap (frs X.stack)) (X.env :: X.outer) := by
    have z := PySem.W.funFrames_hide I2.stack hin
    rw [← Bd.stk]
    exact z
  obtain ⟨t0, he0, _, _⟩ := hm.there
  have ne0 : (PySem.W.hideAll s2.heap (frs X.stack)).get? e = none := by
    cases q0 : (PySem.W.hideAll s2.heap (frs X.stack)).get? e with
    | none => rfl
    | some o => have z := PySem.W.of_hideAll _ q0; rw [hm.new] at z; cases z
  refine leave_first (s := { s2 with heap := h' }) hfr Bd.fr (fun b o q => hm.keeps b o (PySem.W.of_hideAll _ q)) ne0 (ff.of_keeps fun b o q _ => ⟨o, hm.keeps b o q, rfl⟩) he0 rfl rfl ⟨_, rfl, .none⟩ fun h3 fly up => ?_
  refine ⟨e, C, none, H2, _, rfl, ?_, I2.bare, fun h'' st up2 => clo_of Bd I2 hm.keeps up h'' st up2, fly, I2.hok.none_of hm.new, new0 I2 (fun b z => by rw [Bd.ex] at z; cases z) hm.new, q⟩
  exact I2.os
end
end L2
namespace L2
open PySem PySem.Spec PyProof.Rows
structure RoomB (c : Bool) (k : Nat) (A : Around) : Prop where
  hd : c = true → A.handled = none
  dp : A.depth + 3 * k + 5 < recursionLimit
  un : A.units + 16 * k + 200 < cLine
theorem RoomB.mono {c : Bool} {j k : Nat} {A : Around} (r : RoomB c k A) (h : j ≤ k) : RoomB c j A := ⟨r.hd, by have := r.dp; omega, by have := r.un; omega⟩
theorem RoomB.deeper {c : Bool} {k : Nat} {A : Around} (r : RoomB c (k + 1) A) (env : Env) : RoomB c k (A.deeper env) :=
  ⟨r.hd, by have := r.dp; show A.depth + 1 + 3 * k + 5 < _; omega, by have := r.un; show A.units + 3 + 16 * k + 200 < _; omega⟩
theorem RoomB.depth {c : Bool} {k : Nat} {A : Around} (r : RoomB c k A) : A.depth < recursionLimit := by have := r.dp; omega
theorem RoomB.units {c : Bool} {k : Nat} {A : Around} (r : RoomB c k A) : A.units + 64 < cLine := by have := r.un; omega
theorem Room.b {k : Nat} {A : Around} (r : Room k A) : RoomB true k A := ⟨fun _ => r.hd, r.dp, r.un⟩
structure FnB (P : Program) (w : World) (K : PySem.W.Frag) (mg : Str → Option Value) (base : Heap) (c : Bool) (k : Nat) (f : Addr) (fd : FuncData) (ps : List Str) (sp : Sp) : Prop where
  len : ∀ vs H Q E, sp vs H Q E → vs.length = ps.length
  run : ∀ (A : Around) (outer : List Env) (s : Shared) (H : Hp) (args : Args) (us : List Value) (vs : List V) (Q : VK) (E : XK), RoomB c k A → Env0 P w K mg base A outer s H → BindsTo s fd args (ps.zip us) → Vals vs us → sp vs H Q E →
    codeAny (model P w) A (.call (.ref f) args) (CR (CX1 P w) outer P w H s Q E) s
theorem FnB.ok {P : Program} {w : World} {K : PySem.W.Frag} {mg : Str → Option Value} {base : Heap} {k : Nat} {f : Addr} {fd : FuncData} {ps : List Str} {sp : Sp} (F : FnB P w K mg base true k f fd ps sp) : FnOk P w K mg base (CX1 P w) k f fd ps sp :=
  ⟨F.len, fun A outer s H args us vs Q E hr => F.run A outer s H args us vs Q E hr.b⟩
def cxB (c : Bool) (P : Program) (w : World) (K : PySem.W.Frag) (mg : Str → Option Value) (base : Heap) (N : List Str) (qual : Str) (scope : Scope) (f : Addr) (cd : Value) (A : Around) (outer : List Env) (s : Shared) (H : Hp) (E : XK) : Cx :=
  { cxOf (CX1 P w) P w K mg base N qual scope f cd A outer s H E with calm := c }
theorem bodyB {c : Bool} {P : Program} {w : World} {K : PySem.W.Frag} {mg : Str → Option Value} {base : Heap} {N : List Str} {qual : Str} {scope : Scope} {f : Addr} {cd : Value} {A : Around} {outer : List Env} {s : Shared} {H : Hp} {E : XK} :
    BodyCx (cxB c P w K mg base N qual scope f cd A outer s H E) E := ⟨rfl, rfl, rfl, rfl⟩
theorem inv_startB {c : Bool} {P : Program} {w : World} {K : PySem.W.Frag} {mg : Str → Option Value} {base : Heap} {N ps : List Str} {qual : Str} {scope : Scope} {f : Addr} {cd : Value} {A : Around} {outer : List Env} {s s1 : Shared} {H : Hp} {E : XK} {us : List Value} {vs : List V}
    (S : FnScope N ps scope) (hd : c = true → A.handled = none) (e0 : Env0 P w K mg base A outer s H) (hl : vs.length = ps.length) (r : Vals vs us)
    (x : InCallC s s.heap.objs.size (bindL (envOfC qual scope s.heap.objs.size f cd).kindOf (ps.zip us) fun _ => none) (cellsFrom (s.heap.objs.size + 1) scope.names []) (bindC (envOfC qual scope s.heap.objs.size f cd).kindOf (ps.zip us) fun _ => none) s1) :
    Inv (cxB c P w K mg base N qual scope f cd A outer s H E) [] (start N vs) H s1 := by
  have hpl : ps.length ≤ N.length := by have := congrArg List.length S.pre; rw [List.length_take] at this; omega
  obtain ⟨h1, tk, rfl, hk⟩ := x.done
  have noA : ∀ b : Addr, b ∉ (cxB c P w K mg base N qual scope f cd A outer s H E).ex := fun b z => absurd (show b ∈ ([] : List Addr) from z) (by simp)
  refine ⟨⟨e0.mod, S.kind, rfl, rfl, Nat.le_refl _, fun y z c h1 h2 => ?_, fun y hy => ?_, fun y c _ h => ?_, fun z => hd z, Around.frames_deeper e0.frames, .inr ⟨rfl, rfl⟩, fun b z => absurd z (noA b), e0.bs, e0.bsz, fun b _ _ => noA b, fun b z => absurd z (noA b), e0.funs, e0.frf⟩,
    rfl, e0.bare, Un.kept hk, ⟨_, x.toInCall.ns, fun i y v h1 h2 h3 => ?_⟩, fun y c h => ⟨_, x.cell y c h⟩, e0.hok.fresh (Nat.le_refl _), fun y c h => ?_, fun p hp => absurd (show p ∈ ([] : List (Addr × Obj)) from hp) (by simp), e0.hok.kept hk, ?_⟩
  · exact name_of_addr x.apart (PySem.mem_of_lookup h1) (PySem.mem_of_lookup h2)
  · have hy : scope.names.lookup y = some .cell ∨ scope.names.lookup y = some .free := hy
    rcases hy with hy | hy
    · exact cell_has hy
    · exact absurd rfl (S.nofree _ (PySem.mem_of_lookup hy))
  · exact Nat.le_of_lt (x.above y c (PySem.mem_of_lookup h))
  · have hi : i < vs.length := by
      unfold start at h2
      by_cases hi : i < vs.length
      · exact hi
      · rw [List.getElem?_append_right (by simpa using hi)] at h2
        rw [List.getElem?_replicate] at h2
        split at h2 <;> cases h2
    have ha : vs[i]? = some v := by
      unfold start at h2
      rw [List.getElem?_append_left (by simpa using hi), List.getElem?_map] at h2
      cases e : vs[i]? with
      | none => rw [e] at h2; cases h2
      | some a => rw [e] at h2; cases h2; rfl
    obtain ⟨u, hu, rv⟩ := r.get ha
    have hp : ps[i]? = some y := by
      rw [← S.pre, List.getElem?_take_of_lt (by omega)]; exact h1
    have ndP : ps.Nodup := by rw [← S.pre]; exact S.nd.sublist (List.take_sublist _ _)
    refine ⟨u, rv, ?_⟩
    rcases S.par y (List.mem_of_getElem? hp) with k | k
    · exact .inl ⟨k, bindL_get ndP hp hu k⟩
    · obtain ⟨c, e⟩ := cell_has (n := s.heap.objs.size + 1) k
      refine .inr ⟨.inl k, c, e, ?_⟩
      have q := x.cell y c e
      rw [bindC_get ndP hp hu (by show scope.names.lookup y ≠ _; rw [k]; decide)] at q
      exact q
  · exact e0.hok.fresh (Nat.le_of_lt (x.above y c (PySem.mem_of_lookup h)))
  · unfold start
    show _ = N.length
    rw [List.length_append, List.length_map, List.length_replicate]
    omega
theorem fnB_of {c : Bool} {P : Program} {w : World} {K : PySem.W.Frag} {mg : Str → Option Value} {base : Heap} {k : Nat} {f : Addr} {name qual : Str} {params : Arguments} {body : List Stmt} {scope : Scope} {dV kV doc pm cdv ct oc : Value} {an od : Option Addr}
    {osl : Array (Option Value)} {N ps : List Str} {sp : Sp} (lk : K.lookup f = some ⟨oc, od, .func (PySem.W.fnOf name qual params body scope dV kV doc pm an cdv ct), osl⟩) (hcd : PySem.W.codeIn K cdv qual = true) (S : FnScope N ps scope)
    (len : ∀ vs H Q E, sp vs H Q E → vs.length = ps.length)
    (hbody : ∀ (A : Around) (outer : List Env) (s : Shared) (H : Hp) (vs : List V) (Q : VK) (E : XK), RoomB c k (A.deeper (envOfC qual scope s.heap.objs.size f cdv)) → sp vs H Q E →
      ∃ t, PSs (cxB c P w K mg base N qual scope f cdv A outer s H E) body t ∧ t { nx := fun _ H' => Q .non H', rt := Q } (start N vs) H) :
    FnB P w K mg base c (k + 1) f (PySem.W.fnOf name qual params body scope dV kV doc pm an cdv ct) ps sp := by
  refine ⟨len, fun A outer s H args us vs Q E hr e0 hb r hsp => ?_⟩
  have hl := len _ _ _ _ hsp
  have KX : K.In s.heap := e0.mod.kin.keeps fun b o e => (e0.bs b o e).1
  have lim : s.heap.NoLimit := e0.mod.nolimit.keeps fun b o e => (e0.bs b o e).1
  have hkind : ∀ y ∈ ps.zip us, scope.names.lookup y.1 = some .local ∨ (scope.names.lookup y.1 = some .cell ∧ ((cellsFrom (s.heap.objs.size + 1) scope.names []).lookup y.1).isSome = true) := fun ⟨n, v⟩ hy => by
    rcases S.par n (List.of_mem_zip hy).1 with q | q
    · exact .inl q
    · exact .inr ⟨q, PySem.W.cellsFrom_some _ _ _ (.inl q)⟩
  refine codeAny_call_function hr.depth (KX _ _ lk) rfl S.co S.gen rfl (PySem.W.codeRec_of KX hcd) (hb _ _ _ _ ?_)
  refine wpAny_newFunctionEnv_cells S.kind hkind fun env he s1 x => ?_
  subst he
  refine ⟨lim.keeps x.toInCall.keep, codeAny_func ?_⟩
  obtain ⟨t, ht, hq⟩ := hbody A outer s H vs Q E (hr.deeper _) hsp
  have I : Inv (cxB c P w K mg base N qual scope f cdv A outer s H E) [] (start N vs) H s1 := inv_startB S hr.hd e0 hl r x
  refine wpAny_mono (ht [] s1 (start N vs) H _ I hq) (fun fl s' hs => ?_) fun e s' hs => hs
  have fin : ∀ {σ' : St} {H' : Hp} {v : V} {u : Value}, Inv (cxB c P w K mg base N qual scope f cdv A outer s H E) [] σ' H' s' → RelV v u → Q v H' → CE outer P w H s Q u s' :=
    fun {σ' H' v u} J rv q => ⟨v, H', J.os, J.bare, J.base, J.hok, rv, q⟩
  cases fl with
  | ret u =>
    obtain ⟨v, σ', H', J, rv, q⟩ := hs
    exact fin J rv q
  | next =>
    obtain ⟨σ', H', J, q⟩ := hs
    exact fin (v := V.non) (u := Value.none) J rfl q
  | brk =>
    obtain ⟨_, _, _, q⟩ := hs
    exact False.elim q
  | cont =>
    obtain ⟨_, _, _, q⟩ := hs
    exact False.elim q
structure CalB (P : Program) (w : World) (K : PySem.W.Frag) (mg : Str → Option Value) (base : Heap) (c : Bool) (k : Nat) (x : Str) (ps : List Str) (sp : Sp) : Prop where
  ex : ∃ (f : Addr) (fd : FuncData), FnB P w K mg base c k f fd ps sp ∧ mg x = some (.ref f) ∧ PySem.W.keepIn K (.ref f) = true ∧ Binds K fd ps []
theorem TopFn.calB {c : Bool} {P : Program} {w : World} {K : PySem.W.Frag} {mg : Str → Option Value} {base : Heap} {x : Str} {st : Stmt} {N ps : List Str} {k : Nat} {sp : Sp} (T : TopFn K mg x st) (S : FnScope N ps (defScope st))
    (hb : ∀ (kV doc pm : Value) (an : Option Addr) (cdv ct : Value) (us : List Value), us.length = ps.length → bindArgs (PySem.W.fnOf x x (defArgs st) (defBody st) (defScope st) .none kV doc pm an cdv ct) ⟨us, []⟩ = pure (ps.zip us))
    (len : ∀ vs H Q E, sp vs H Q E → vs.length = ps.length)
    (hbody : ∀ (f : Addr) (cdv : Value) (A : Around) (outer : List Env) (s : Shared) (H : Hp) (vs : List V) (Q : VK) (E : XK), RoomB c k (A.deeper (envOfC x (defScope st) s.heap.objs.size f cdv)) → sp vs H Q E →
      ∃ t, PSs (cxB c P w K mg base N x (defScope st) f cdv A outer s H E) (defBody st) t ∧ t { nx := fun _ H' => Q .non H', rt := Q } (start N vs) H) : CalB P w K mg base c (k + 1) x ps sp := by
  obtain ⟨f, fd, F, hm⟩ := T.ex
  obtain ⟨oc, od, kV, doc, pm, an, cdv, ct, osl, rfl, l, cd⟩ := id F.ex
  exact ⟨f, _, fnB_of l cd S len (hbody f cdv), hm, F.kp, F.binds hb⟩
theorem pass01 {P : Program} {w : World} {X : Cx} : Passes (CX1 P w) X E0 := fun _ _ _ _ _ _ _ h => by
  obtain ⟨_, _, _, _, _, _, _, _, _, _, _, _, q⟩ := h
  exact q.elim
section
variable {X : Cx} {c : Bool} {k : Nat} {ps : List Str} {sp : Sp} {x : Str} {p pos : Pos} {e : Expr} {es : List Expr} {t : TA} {E : XK}
theorem run_fnB {pins : List (Addr × Obj)} {σ : St} {H : Hp} {s : Shared} {Q : VK} {us : List Value} {vs : List V} {f : Addr} {fd : FuncData} {E' : Value → Shared → Prop} (F : FnB X.prog X.w X.K X.mg X.base c k f fd ps sp) (hr : RoomB c k X.A) (hb : Binds X.K fd ps [])
    (I : Inv X pins σ H s) (r : Vals vs us) (h : sp (vs ++ []) H Q E) (hx : ∀ e s', CX1 X.prog X.w X.stack H s E e s' → E' e s') : wpAny (model X.prog X.w) X.A (call (.ref f) us) (EP X pins σ Q) E' s := by
  have r2 : Vals (vs ++ []) (us ++ []) := r.append .nil
  have hl : (us ++ []).length = ps.length := by rw [← r2.length]; exact F.len _ _ _ _ h
  refine wpAny_call (codeAny_mono (F.run X.A X.stack s H ⟨us, []⟩ (us ++ []) (vs ++ []) Q E hr I.env0 (hb s us I.kIn hl) r2 h) fun r s' hq => ?_)
  cases r with
  | error e => exact hx e s' hq
  | ok fl =>
    cases fl with
    | ret u => exact I.after hq
    | next => exact False.elim hq
    | brk => exact False.elim hq
    | cont => exact False.elim hq
theorem pe_cB (C : CalB X.prog X.w X.K X.mg X.base c k x ps sp) (hr : RoomB c k X.A) (hx : Passes (CX1 X.prog X.w) X E) (ha : PA X (e :: es) t) (hg : Gl X x := by rfl) (hdb : (x == ("__debug__" : Str)) = false := by decide)
    (he : starEach (e :: es) X.env = (false, eval e X.env) :: starEach es X.env := by rfl) (hpl : (backTo pos (starEach es X.env)).any (·.1) = false := by rfl) :
    PE X (.Call (.Name x p) (e :: es) [] pos) (tCall sp [] E t) := by
  obtain ⟨f, fd, F, hm, hk, hb⟩ := C.ex
  intro pins s σ H Q I h
  refine wpAny_Call_Name_kw (ld_glob I hg hm ?_ hdb)
  refine PySem.W.callWith_K (h₀ := X.base) I.ok.mod.kin hk (thn (ha pos pins s σ H _ I h) fun us s1 ⟨vs, H1, I1, r, q⟩ => ⟨I1.kIn, ?_⟩) he hpl
  exact run_fnB F hr hb I1 r q fun e s' h => hx pins σ H1 s1 e s' I1 h
end
end L2
namespace L2
open PySem PySem.Spec PyProof.Rows
abbrev Cx.hnd (X : Cx) (a : Addr) : Cx := { X with A := X.A.mark (some (.ref a)), calm := false, xe := fun _ _ => False }
section
variable {X : Cx} {pins : List (Addr × Obj)} {σ : St} {H : Hp} {s : Shared}
theorem Inv.hnd (I : Inv X pins σ H s) (a : Addr) : Inv (X.hnd a) pins σ H s :=
  ⟨⟨I.ok.mod, I.ok.kind, I.ok.glob, I.ok.blt, I.ok.above, I.ok.inj, I.ok.has, I.ok.cab, (fun z => nomatch z), I.ok.frames, I.ok.stk, I.ok.exf, I.ok.bs, I.ok.bsz, I.ok.noex, I.ok.exfs, I.ok.funs, I.ok.frf⟩, I.os, I.bare, I.base, I.loc, I.cell, I.free, I.freeC, I.pin, I.hok, I.len⟩
theorem Inv.unhnd {a : Addr} (I0 : X.Ok) (I : Inv (X.hnd a) pins σ H s) : Inv X pins σ H s := ⟨I0, I.os, I.bare, I.base, I.loc, I.cell, I.free, I.freeC, I.pin, I.hok, I.len⟩
theorem PA.any {es : List Expr} {t : TA} (h : PA X.nox es t) {E' : Value → Shared → Prop} (pos : Pos) {Q : List V → Hp → Prop} (I : Inv X pins σ H s) (q : t σ H Q) :
    wpAny (model X.prog X.w) X.A (spliced (backTo pos (starEach es X.env))) (AP X pins σ Q) E' s :=
  wpAny_mono (h pos pins s σ H Q (I.wish _) q) (fun us s1 ⟨vs, H1, I1, r, q1⟩ => ⟨vs, H1, I1.unwish, r, q1⟩) fun _ _ z => z.elim
end
section
variable {X : Cx} {pins : List (Addr × Obj)} {σ : St} {H H2 : Hp} {s s' : Shared} {a C Bc : Addr} {t : Option Addr} {B : Heap} {D : Ends} {xc n : Str} {np hp : Pos} {b₀ : Stmt} {suite : List Stmt} {rest : List ExceptHandler} {ts : TS} {i : Nat}
theorem handle_no (I : Inv X pins σ H s) (hst : X.stack = X.env :: X.outer) (hf : X.env.frame = some X.env.locals) (os : s'.os = s.os) (bare : AllBare s'.gens)
    (clo : ∀ h'' : Heap, B.StaysIn h'' → s'.heap.UpToSlots h'' → Un (frs X.stack) [] H H2 s.heap h'' ∧ HOk X.prog X.w H2 h'') (fly : FlyD B X.stack a (.ref C) t .none s'.heap)
    (hg : Gl X xc) (hcl : X.mg xc = some (.ref Bc)) (hm : PySem.W.exmOne X.K (.ref C) (.ref Bc) = some true) (hs : PSs (X.hnd a) (b₀ :: suite) ts)
    (q : ts D σ H2) (hdb : (xc == ("__debug__" : Str)) = false := by decide) :
    wpAny (model X.prog X.w) X.A (noteFrame (.ref a) X.env) (fun _ s₂ => wpAny (model X.prog X.w) X.A (setFlight (.ref a) none) (fun _ s₃ =>
      wpAny (model X.prog X.w) X.A (handleBy (.ref a) X.env (.ExceptHandler (some (.Name xc np)) none (b₀ :: suite) hp :: rest)) (SP X pins D) X.xe s₃) X.xe s₂) X.xe s' := by
  have hfr : X.A.frames = some (X.env :: X.outer) := by rw [← hst]; exact I.ok.frames
  have fly' : FlyD B (X.env :: X.outer) a (.ref C) t .none s'.heap := by rw [← hst]; exact fly
  refine note_next hfr hf fly' fun h4 held4 up4 => ?_
  refine fl_none (s := { s' with heap := h4 }) held4 fun h5 fly5 up5 => ?_
  have J5 : Inv X pins σ H2 { s' with heap := h5 } := inv_behind I os bare (clo h5 fly5.1 (up4.trans up5))
  obtain ⟨ob, hob, hobc, _⟩ := fly5.there
  have LT : PySem.W.Looks (model X.prog X.w) h5 (typeOf (.ref a)) (.ref C) := hobc ▸ (PySem.W.Looks.ld hob).andThen .now
  refine wpAny_handleBy_cons (codeAny_handlers_test (ld_glob (X := X.hnd a) (J5.hnd a) hg hcl ?_ hdb)) (by intro q; cases q)
  refine PySem.W.exm_one (K := X.K) J5.kIn LT hm _ _ _ _ (fun _ _ e => e) ?_
  refine codeAny_handlers_suite ?_
  refine fl_none (s := { s' with heap := h5 }) fly5 fun h6 fly6 up6 => ?_
  have J7 : Inv X pins σ H2 { s' with heap := h6 } := inv_behind I os bare (clo h6 fly6.1 ((up4.trans up5).trans up6))
  refine wpAny_mono (hs pins _ _ _ D (J7.hnd a) q) (fun f s9 hq => ?_) (fun x s9 z => z.elim)
  cases f with
  | next =>
    obtain ⟨σ', H', J, q⟩ := hq
    exact ⟨_, _, J.unhnd I.ok, q⟩
  | ret u =>
    obtain ⟨v, σ', H', J, r, q⟩ := hq
    exact ⟨v, _, _, J.unhnd I.ok, r, q⟩
  | brk =>
    obtain ⟨σ', H', J, q⟩ := hq
    exact ⟨_, _, J.unhnd I.ok, q⟩
  | cont =>
    obtain ⟨σ', H', J, q⟩ := hq
    exact ⟨_, _, J.unhnd I.ok, q⟩
end
end L2
namespace L2
open PySem PySem.Spec PySem.Calls PyProof.Rows PySem.W Builtin Builtin.ObjectAttr Builtin.Getset_descriptor
end L2
namespace L2
open PySem PySem.Spec PyProof.Rows PySem.Builtin PySem.Builtin.Str
section
variable {X : Cx}
def rStarts : V → List V → Hp → VK → Prop := fun x vs H Q => ∃ i j, x = .str i ∧ vs = [.str j] ∧ Q (.bl (Txt.startswith i j)) H
theorem mt_startswith : MtM X "str.startswith" rStarts := by
  intro pins s σ H x vs v us Q I rx rv h
  obtain ⟨i, j, rfl, rfl, q⟩ := h
  obtain ⟨t, rfl⟩ := rx
  obtain ⟨u, rfl, ru⟩ := rv.one
  obtain ⟨t', rfl⟩ := ru
  exact SC.startswith ⟨.bl _, H, I, rfl, q⟩
theorem vals_strs : ∀ (l : List (Str × Tok)), Vals ((l.map (·.1)).map V.str) (strValues l)
  | [] => .nil
  | p :: r => .cons ⟨p.2, rfl⟩ (vals_strs r)
def rSplit : V → List V → Hp → VK → Prop := fun x vs H Q => ∃ i j, x = .str i ∧ vs = [.str j] ∧ (j.length == 0) = false ∧ i.length + 2 ≤ sizeLine ∧ ∀ p, H p = none → Q (.ref p) (upd H p (.lst ((Txt.split i j).map V.str)))
theorem mt_split : MtM X "str.split" rSplit := by
  intro pins s σ H x vs v us Q I rx rv h
  obtain ⟨i, j, rfl, rfl, hj, hz, q⟩ := h
  obtain ⟨t, rfl⟩ := rx
  obtain ⟨u, rfl, ru⟩ := rv.one
  obtain ⟨t', rfl⟩ := ru
  have hn : (partsBetween i (occurrences i j 0 i.length (i.length + 1)) j.length).length ≤ sizeLine := by
    have e1 := StrLaws.occ_length_le i j 0 i.length (i.length + 1)
    rw [length_partsBetween]; omega
  have fin : ∀ (l : List (Str × Tok)) (tk : Nat), l.map (·.1) = Txt.split i j → l.length ≤ sizeLine → EP X pins σ Q (.ref s.heap.objs.size) { s with heap := s.heap.push { cls := .type "list", data := .seq (strValues l).toArray }, toks := tk } := fun l tk e hl => by
    refine ⟨.ref s.heap.objs.size, _, ?_, rfl, q _ I.fresh⟩
    rw [← e]
    exact I.lnew (vals_strs l) (by rw [List.length_map, List.length_map]; exact hl)
  cases h1 : (decide (i.length < j.length) || decide (strKind i < strKind j))
  · cases hf : (occurrences i j 0 i.length (i.length + 1)).isEmpty
    · refine call_meets F.slot_str_split (typeIs_str _ _ _) F.entry_str_split (F.args_str_split_2 _ _) (meets_str_split_sep i j t t' h1 hj hf (by omega) hn) ?_
      show wants _ _ _ { s with toks := _, heap := s.heap.push { cls := .type "list", data := .seq (strsFrom s.toks (partsBetween i (occurrences i j 0 i.length (i.length + 1)) j.length)).toArray } }
      rw [strsFrom_eq]
      refine fin (numbered s.toks _) _ ((numbered_texts _ _).trans ((if_neg (ne_true_of_eq_false h1)).trans (if_neg (ne_true_of_eq_false hf))).symm) ?_
      have := congrArg List.length (numbered_texts s.toks (partsBetween i (occurrences i j 0 i.length (i.length + 1)) j.length))
      rw [List.length_map] at this
      omega
    · exact call_meets F.slot_str_split (typeIs_str _ _ _) F.entry_str_split (F.args_str_split_2 _ _) (meets_str_split_not_found i j t t' h1 hj hf)
        (fin [(i, t)] s.toks ((if_neg (ne_true_of_eq_false h1)).trans (if_pos hf)).symm (by show 1 ≤ sizeLine; decide))
  · exact call_meets F.slot_str_split (typeIs_str _ _ _) F.entry_str_split (F.args_str_split_2 _ _) (meets_str_split_cannot_occur i j t t' h1)
      (fin [(i, t)] s.toks (if_pos h1).symm (by show 1 ≤ sizeLine; decide))
def rSlS : V → Option Int → Option Int → Hp → VK → Prop := fun x lo hi H Q => ∃ z, x = .str z ∧ z.length ≤ sizeLine ∧ Q (.str (Txt.slice z lo hi)) H
theorem sl_str : SlR X rSlS := by
  intro pins s σ H x v vl vu lo hi sl Q I rx hs pl pu h
  obtain ⟨z, rfl, hz, q⟩ := h
  obtain ⟨t, rfl⟩ := rx
  refine ⟨"str", _, F.slot_str_getitem.lookup, typeIs_str _ _ _, ?_⟩
  obtain ⟨o, ho, hc, hd⟩ := hs
  have fin : ∀ t' k, EP X pins σ Q (.str (Txt.slice z lo hi) t') { s with toks := k } := fun t' k => ⟨.str _, H, I.tok _, ⟨t', rfl⟩, q⟩
  have hz' := Nat.le_trans (Txt.slice_le z lo hi) hz
  cases pl with
  | none =>
    cases pu with
    | none => exact wpAny_getItem_str_slice (l := none) (u := none) (st := none) ⟨o, ho, hc, hd⟩ rfl (post_val_or_str ⟨hz', fin⟩)
    | int j tj => exact wpAny_getItem_str_slice (l := none) (u := some (j, tj)) (st := none) ⟨o, ho, hc, hd⟩ rfl (post_val_or_str ⟨hz', fin⟩)
  | int i ti =>
    cases pu with
    | none => exact wpAny_getItem_str_slice (l := some (i, ti)) (u := none) (st := none) ⟨o, ho, hc, hd⟩ rfl (post_val_or_str ⟨hz', fin⟩)
    | int j tj => exact wpAny_getItem_str_slice (l := some (i, ti)) (u := some (j, tj)) (st := none) ⟨o, ho, hc, hd⟩ rfl (post_val_or_str ⟨hz', fin⟩)
def PJ (X : Cx) (es : List Expr) (t : Str → St → Hp → VK → Prop) : Prop :=
  ∀ (out : Str) (pins : List (Addr × Obj)) (s : Shared) (σ : St) (H : Hp) (Q : VK), Inv X pins σ H s → t out σ H Q → wpAny (model X.prog X.w) X.A (joinParts out (evalEach es X.env)) (EP X pins σ Q) X.xe s
def Fmt (x : V) (y : Str) : Prop := (∃ i : Int, x = .int i ∧ i.natAbs.log2 < 1920 ∧ y = ((toString i : String) : Str)) ∨ (x = .str y ∧ y.length ≤ sizeLine)
variable {a : Expr} {ta : TE} {es : List Expr} {tr : Str → St → Hp → VK → Prop} {p pos : Pos}
theorem pj_nil : PJ X [] (fun out _ H Q => out.length ≤ sizeLine ∧ Q (.str out) H) := fun out _ s σ H Q I h => joinParts_nil ⟨.str out, H, I.tok _, ⟨_, rfl⟩, h.2⟩ h.1
theorem pj_fmt (ha : PE X a ta) (hr : PJ X es tr) : PJ X (.FormattedValue a (-1) none p :: es) (fun out σ H Q => ta σ H fun x H1 => ∃ y, Fmt x y ∧ (out ++ y).length ≤ sizeLine ∧ tr (out ++ y) σ H1 Q) := by
  intro out pins s σ H Q I h
  refine joinParts_cons (FormattedValue_plain (thn (ha pins s σ H _ I h) fun v s1 ⟨x, H1, I1, r1, y, hy, hz, q⟩ => ?_))
  rcases hy with ⟨i, rfl, hl, rfl⟩ | ⟨rfl, hl⟩
  · obtain ⟨t, rfl⟩ := r1
    exact formatField_int_small hl ⟨hz, hr _ pins _ σ H1 Q (I1.tok _) q⟩
  · obtain ⟨t, rfl⟩ := r1
    exact formatField_str (fun t' tk => ⟨hz, hr _ pins _ σ H1 Q (I1.tok _) q⟩) hl
theorem pj_str {z : Str} {k : Nat} (hr : PJ X es tr) : PJ X (.Constant (.str z) k p :: es) (fun out σ H Q => (out ++ z).length ≤ sizeLine ∧ tr (out ++ z) σ H Q) := by
  intro out pins s σ H Q I h
  exact joinParts_cons (Calls.Constant_str ⟨h.1, hr _ pins _ σ H Q (I.tok _) h.2⟩)
theorem pe_joined {e1 e2 : Expr} {t : Str → St → Hp → VK → Prop} (h : PJ X (e1 :: e2 :: es) t) : PE X (.JoinedStr (e1 :: e2 :: es) pos) (t Str.empty) := fun pins s σ H Q I q => JoinedStr_many (h _ pins s σ H Q I q)
theorem call_int_text : CallR X (.type "int") (fun xs H Q => ∃ x n, xs = [.str x] ∧ x.length ≤ 640 ∧ PySem.intText? x = some n ∧ Q (.int n) H) := by
  intro pins s σ H xs us Q I r h
  obtain ⟨x, n, rfl, hl, hn, q⟩ := h
  obtain ⟨u, rfl, ru⟩ := vals1 r
  obtain ⟨t, rfl⟩ := ru
  exact call_int_1 (PySem.W.KIN.gives_text hl hn).meets ⟨rfl, ⟨.int n, H, I.tok _, ⟨_, rfl⟩, q⟩⟩
theorem call_all (hc : X.calm = true) : CallR X (.builtin "all") (fun xs H Q => ∃ (p : Addr) (bs : List Bool), xs = [.ref p] ∧ SqL X.K H p (bs.map V.bl) ∧ Q (.bl (bs.all id)) H) := by
  intro pins s σ H xs us Q I r h
  obtain ⟨p, bs, rfl, hp, q⟩ := h
  obtain ⟨u, rfl, ru⟩ := vals1 r
  cases ru
  obtain ⟨its, rv, pl, hz⟩ := I.list hp
  have hlen : its.toArray.size = bs.length := by
    have := rv.length
    rw [List.length_map] at this
    rw [List.size_toArray]; exact this.symm
  have hlt : p < s.heap.objs.size := by
    obtain ⟨o, e, _⟩ := pl.isList
    exact Heap.lt_size e
  have hh : X.A.in1.handled = none := I.ok.hd hc
  refine call_all_walk (wpAny_pyIter_list pl.isList ⟨s.heap.objs.size, _, _, _, _, _, fun i => bs.getD i false, rfl, Walks.list hh s.heap.objs.size p (Nat.ne_of_lt hlt) its.toArray, ⟨⟨_, Heap.get?_push_size _ rfl, rfl, rfl⟩, pl.isList.push _⟩, ?_, fun h' tk k => ?_⟩)
  · intro i v s1 Q1 E1 hP hQ
    have hg : its[i]? = some v := by simpa using hP
    have hb : bs[i]? = some (bs.getD i false) ∧ RelV (.bl (bs.getD i false)) v := by
      have hi : i < bs.length := by
        have := (List.getElem?_eq_some_iff.mp hg).1
        rw [← hlen, List.size_toArray]; exact this
      have e1 : (bs.map V.bl)[i]? = some (.bl (bs.getD i false)) := by
        rw [List.getElem?_map, List.getD_eq_getElem?_getD, List.getElem?_eq_getElem hi]; rfl
      obtain ⟨u, hu, ru⟩ := rv.get e1
      rw [hg] at hu
      cases hu
      refine ⟨?_, ru⟩
      rw [List.getD_eq_getElem?_getD, List.getElem?_eq_getElem hi]; rfl
    obtain ⟨_, ru⟩ := hb
    cases ru
    exact wpAny_truthy_bool hQ
  · have e : (List.range its.toArray.size).all (fun i => bs.getD i false) = bs.all id := by
      rw [hlen]
      clear hlen rv q k hp hz
      induction bs with
      | nil => rfl
      | cons b r ih =>
        rw [List.length_cons, List.range_succ_eq_map, List.all_cons, List.all_map, List.all_cons, ← ih]
        rfl
    rw [e]
    exact ⟨.bl _, H, I.kept (h' := h') (t' := tk) fun b o e => k b o (by
      intro hb
      have : b = s.heap.objs.size := by simpa using hb
      exact absurd (Heap.lt_size e) (by rw [this]; exact Nat.lt_irrefl _)) (Heap.get?_push_of_some _ e), rfl, q⟩
end
end L2
namespace L2
open PySem PySem.Spec PyProof.Rows PySem.Builtin PySem.Builtin.Str
theorem vals_of_signs {G : Str} : ∀ {vs : List Value} {zs : List Str} {rs : List Value}, AreOf .str vs zs → Paired (fun v r => ∃ z t, v = .str z t ∧ r = .bool (!(occurrences G z 0 G.length 1).isEmpty)) vs rs →
    Vals (zs.map fun z => V.bl (!(occurrences G z 0 G.length 1).isEmpty)) rs
  | _, _, _, .nil, r => by cases r; exact .nil
  | _, _, _, .cons h hs, r => by
    cases r with
    | cons r1 r2 =>
      obtain ⟨t, rfl⟩ := h
      obtain ⟨z, t', e, rfl⟩ := r1
      cases e
      exact .cons rfl (vals_of_signs hs r2)
section
variable {X : Cx}
theorem Inv.laidN {pins : List (Addr × Obj)} {σ : St} {H : Hp} {s : Shared} {a : Addr} {o : HO} {h' : Heap} {tk : Nat} (I : Inv X pins σ H s) (k : ∀ b u, s.heap.get? b = some u → h'.get? b = some u) (na : s.heap.get? a = none)
    (new : ObjOk X.prog X.w (upd H a o) h' a o) : Inv X pins σ (upd H a o) { s with heap := h', toks := tk } := by
  have hn : H a = none := I.hok.none_of na
  refine inv_behind (s' := { s with heap := h', toks := tk }) I rfl I.bare ⟨⟨fun b u e _ _ _ => k b u e, fun b u e _ _ _ => ⟨u.slots, k b u e⟩, fun b u e n _ => ?_, fun b u e _ => ⟨u, k b u e⟩, fun b xs e => ?_, fun b u x e => ?_, fun b ps e => ?_⟩, fun b u e => ?_⟩
  · have : b ≠ a := fun z => by rw [z, na] at e; cases e
    rw [upd_ne this]
    exact n
  · rw [upd_ne (ne_of_none e hn)]; exact e
  · rw [upd_ne (ne_of_none e hn)]; exact e
  · exact ⟨#[], by rw [upd_ne (ne_of_none e hn), Array.append_empty]; exact e⟩
  · by_cases hb : b = a
    · subst hb
      rw [upd_same] at e
      cases e
      exact new
    · rw [upd_ne hb] at e
      exact (I.hok b u e).stay (fun c v _ q => k c v q) (fun c q => by rw [upd_ne (ne_of_none q hn)]; exact q) fun c xs q => by rw [upd_ne (ne_of_none q hn)]; exact q
theorem pe_compIn {x g : Str} {px p1 p2 p3 pos : Pos} {iter : Expr} {ti : TE} {scope : Scope} {G : Str} {tG : Tok} (hc : X.calm = true) (hi : PE X iter ti) (hm : X.mg g = some (.str G tG))
    (hfree : ∀ y ∈ scope.names, y.2 ≠ .free) (hcell : ∀ y ∈ scope.names, y.2 ≠ .cell) (hkind : scope.kind = .function) (hnames : ∀ y ∈ scope.names, y.2 = .local → scope.names.lookup y.1 = some .local)
    (hx : scope.names.lookup x = some .local) (hg : scope.names.lookup g = some .globalImplicit) (hd : (x == ("__debug__" : Str)) = false) (hd2 : (g == ("__debug__" : Str)) = false) (hs : ∀ x, foldedSetIterable iter X.env x = pure x := by intro _; rfl) (hmk : behindInMarks .In (.Name g p2) = false := by rfl) :
    PE X (.ListComp (.Compare (.Name x p1) [.In] [.Name g p2] p3) [⟨.Name x px, iter, [], 0⟩] scope pos)
      (fun σ H Q => ti σ H fun v H1 => ∃ y, v = .str y ∧ y.length ≤ sizeLine ∧ ∀ p, H1 p = none → Q (.ref p) (upd H1 p (.lst ((signs y).map fun z => V.bl (!(occurrences G z 0 G.length 1).isEmpty))))) := by
  intro pins s σ H Q I h
  refine wpAny_ListComp_walk (fun _ => true) (fun v r => ∃ z t, v = .str z t ∧ r = .bool (!(occurrences G z 0 G.length 1).isEmpty)) hfree hcell hkind hnames hx (thn (hi pins s σ H _ I h) fun xv s1 ⟨v, H1, I1, r1, y, e, hz, q⟩ => ?_) hs
  subst e
  obtain ⟨t, rfl⟩ := r1
  refine wpAny_pyIter_str fun o St W hst => ?_
  have up : ∀ (h' : Heap), (∀ b o', b ∉ [s1.heap.objs.size] → (s1.heap.push o).get? b = some o' → h'.get? b = some o') → ∀ b o', s1.heap.get? b = some o' → h'.get? b = some o' :=
    fun h' hk b o' e => hk b o' (old_not_new e) (Heap.get?_push_of_some _ e)
  refine ⟨s1.heap.objs.size, [s1.heap.objs.size], [s1.heap.objs.size], y.cps.size, SignAt y, St, rfl, W X.A (I1.ok.hd hc), hz, hst, ?_, ⟨?_, ?_⟩, ?_⟩
  · intro b hb
    show b < (s1.heap.push o).objs.size
    rw [Heap.size_push, List.mem_singleton.mp hb]
    exact Nat.lt_succ_self _
  · intro C i v s₃ m₃ E' hP hn hm' _ _
    exact wpAny_pure ⟨rfl, s₃.heap, s₃.toks, rfl, fun _ _ e => e⟩
  · intro C i v s₃ m₃ E' hP hp hn hm' k _
    obtain ⟨c, u, hcu, rfl⟩ := hP
    have ns : s₃.heap.Ns mainGlobals X.mg := (I1.mod.glob.keeps I1.bk).keeps (up s₃.heap k)
    refine wpAny_Compare1 (wpAny_Name (wpAny_loadName_local hkind hx hn hm' ?_) hd) hmk
    refine Calls.Name_function_global hkind hg (Calls.loadGlobal_global (by show s₃.heap.Ns X.env.globals X.mg; rw [I1.ok.glob]; exact ns) hm ?_) hd2
    exact in_str ⟨⟨_, _, rfl, rfl⟩, s₃.heap, s₃.toks, rfl, fun _ _ e => e⟩
  · intro D h' tk ys vs hnew hlD hplD hlen hP hF hk
    have hD : s1.heap.get? D = none := by
      cases e : s1.heap.get? D with
      | none => rfl
      | some ob =>
        have z : (s1.heap.push o).get? D = some ob := Heap.get?_push_of_some _ e
        have hnew' : (s1.heap.push o).get? D = none := hnew
        rw [z] at hnew'
        cases hnew'
    have hF' : Paired (fun v r => ∃ z t, v = .str z t ∧ r = .bool (!(occurrences G z 0 G.length 1).isEmpty)) vs ys.toList := by
      rw [List.filter_eq_self.mpr (fun _ _ => rfl)] at hF
      exact hF
    have rv := vals_of_signs (areOf_signs hlen hP) hF'
    obtain ⟨n0, hn0⟩ := hplD
    refine ⟨.ref D, _, I1.laidN (a := D) (o := .lst _) (tk := tk) (up h' hk) hD ⟨?_, ys.toList, n0, rv, ?_⟩, rfl, q D (I1.hok.none_of hD)⟩
    · rw [List.length_map, signs_length]; exact hz
    · rw [hn0]
end
end L2
namespace Tx
open PySem PySem.Builtin PySem.Builtin.Str PySem.NumText PyProof.Rows
abbrev cl (x : PySem.Str) : List Nat := x.cps.toList
theorem ext {x y : PySem.Str} (h : cl x = cl y) : x = y := PySem.Str.ext' (Array.toList_inj.mp h)
theorem cl_app (x y : PySem.Str) : cl (x ++ y) = cl x ++ cl y := PySem.W.KT.app_list x y
theorem cl_len (x : PySem.Str) : (cl x).length = x.length := Array.length_toList
def dg (m : Nat) : List Nat := (Nat.toDigits 10 m).map Char.toNat
theorem dg_digits (m : Nat) : AllDigits (dg m) := by
  intro c hc
  obtain ⟨ch, hch, e⟩ := List.mem_map.mp hc
  have r := digit_range (Nat.isDigit_of_mem_toDigits (by decide) (by decide) hch)
  rw [← e]
  exact r
theorem dg_ne (m : Nat) : dg m ≠ [] := by
  intro e
  have h := toDigits_len_ge 10 m
  rw [List.map_eq_nil_iff.mp e] at h
  exact absurd h (by decide)
theorem dg_val (m : Nat) : digitsVal (dg m) = m := PySem.W.KIN.val_back m
theorem cl_num (i : Int) : cl (PySem.Str.ofString (toString i)) = (if i < 0 then [45] else []) ++ dg i.natAbs := by
  cases i with
  | ofNat m =>
    rw [if_neg (by show ¬ ((m : Int) < 0); omega)]
    exact PySem.W.KIN.signs_num m
  | negSucc m =>
    rw [if_pos (by omega), cl, signs_ofString]
    show (("-" ++ Nat.repr (m + 1)).toList.map Char.toNat) = _
    rw [String.toList_append, List.map_append, Nat.toList_repr]
    rfl
def sh (q : Rat) : List Nat := (if q.num < 0 then [45] else []) ++ dg q.num.natAbs ++ (if q.den = 1 then [] else 47 :: dg q.den)
def shS (q : Rat) : PySem.Str := ⟨(sh q).toArray⟩
theorem cl_shS (q : Rat) : cl (shS q) = sh q := List.toList_toArray
def cut (c : Nat) : List Nat → List (List Nat)
  | [] => [[]]
  | a :: r => if a = c then [] :: cut c r else match cut c r with
    | [] => [[a]]
    | p :: ps => (a :: p) :: ps
theorem cut_free {c : Nat} : ∀ {p : List Nat}, c ∉ p → cut c p = [p]
  | [], _ => rfl
  | a :: r, h => by
    have h1 : a ≠ c := fun e => h (e ▸ List.mem_cons_self ..)
    have h2 : c ∉ r := fun e => h (List.mem_cons_of_mem _ e)
    unfold cut
    rw [if_neg h1, cut_free h2]
theorem cut_app {c : Nat} (r : List Nat) : ∀ {p : List Nat}, c ∉ p → cut c (p ++ c :: r) = p :: cut c r
  | [], _ => by
    show cut c (c :: r) = _
    rw [cut, if_pos rfl]
  | a :: p, h => by
    have h1 : a ≠ c := fun e => h (e ▸ List.mem_cons_self ..)
    have h2 : c ∉ p := fun e => h (List.mem_cons_of_mem _ e)
    show cut c (a :: (p ++ c :: r)) = _
    rw [cut, if_neg h1, cut_app r h2]
theorem cut_join {c : Nat} : ∀ {ps : List PySem.Str}, ps ≠ [] → (∀ p ∈ ps, c ∉ cl p) → cut c (cl (PySem.Str.join ⟨#[c]⟩ ps)) = ps.map cl
  | [], h, _ => absurd rfl h
  | [p], _, h => by
    rw [join_one, cut_free (h p (List.mem_cons_self ..))]
    rfl
  | p :: q :: r, _, h => by
    rw [join_cons_cons, cl_app, cl_app]
    show cut c (cl p ++ [c] ++ cl (PySem.Str.join ⟨#[c]⟩ (q :: r))) = _
    rw [List.append_assoc]
    show cut c (cl p ++ c :: cl (PySem.Str.join ⟨#[c]⟩ (q :: r))) = _
    rw [cut_app _ (h p (List.mem_cons_self ..)), cut_join (by simp) fun p hp => h p (List.mem_cons_of_mem _ hp)]
    rfl
theorem split_cut (x : PySem.Str) (c : Nat) : (Txt.split x ⟨#[c]⟩).map cl = cut c (cl x) := by
  have h1 := split_pos x ⟨#[c]⟩
  have h2 := cut_join (c := c) (ps := Txt.split x ⟨#[c]⟩) (fun e => by rw [e] at h1; exact absurd h1 (by decide)) (StrLaws.split_free x c)
  rw [StrLaws.join_split] at h2
  exact h2.symm
theorem starts_one (x : PySem.Str) (c : Nat) : Txt.startswith x ⟨#[c]⟩ = decide ((cl x).head? = some c) := by
  obtain ⟨⟨l⟩⟩ := x
  cases l with
  | nil => rfl
  | cons a r =>
    show (decide (0 + 1 ≤ (a :: r).toArray.size) && ((a :: r).toArray.extract 0 (0 + 1) == #[c])) = decide (some a = some c)
    by_cases h : a = c
    · subst h; simp
    · simp [h]
theorem pick_all : ∀ r : List Nat, (List.range r.length).filterMap (fun k => r[k]?) = r
  | [] => rfl
  | a :: r => by
    rw [List.length_cons, List.range_succ_eq_map, List.filterMap_cons_some (by rfl), List.filterMap_map]
    show a :: (List.range r.length).filterMap (fun k => r[k]?) = _
    rw [pick_all r]
theorem slice_tail (x : PySem.Str) : cl (Txt.slice x (some 1) none) = (cl x).drop 1 := by
  obtain ⟨⟨l⟩⟩ := x
  cases l with
  | nil => rfl
  | cons a r =>
    have e : strSliceIndices (some 1) none 1 (r.length + 1) = (List.range r.length).map (· + 1) := by
      unfold strSliceIndices sliceRange
      simp only [show (1 : Int) > 0 by decide, if_true]
      have h1 : max 0 (min (if (1 : Int) < 0 then 1 + ((r.length + 1 : Nat) : Int) else 1) ((r.length + 1 : Nat) : Int)) = 1 := by
        rw [if_neg (by decide)]
        omega
      rw [h1]
      have h2 : (if (1 : Int) < ((r.length + 1 : Nat) : Int) then (((r.length + 1 : Nat) : Int) - 1 + 1 - 1) / 1 else 0).toNat = r.length := by
        split <;> simp <;> omega
      rw [h2]
      apply List.map_congr_left
      intro k _
      omega
    have hl : (PySem.Str.mk (a :: r).toArray).length = r.length + 1 := by
      show (a :: r).toArray.size = _
      simp
    show cl (Txt.slice (PySem.Str.mk (a :: r).toArray) (some 1) none) = r
    unfold Txt.slice
    rw [hl, e]
    rw [if_neg (by simp)]
    show ((((List.range r.length).map (· + 1)).filterMap (fun k => (a :: r).toArray[k]?)).toArray).toList = r
    rw [List.toList_toArray, List.filterMap_map]
    have : ((fun k => (a :: r).toArray[k]?) ∘ fun x => x + 1) = fun k => r[k]? := by
      funext k
      simp
    rw [this, pick_all]
theorem digit_in (c : Nat) : (!(occurrences (PySem.Str.ofString "0123456789") ⟨#[c]⟩ 0 (PySem.Str.ofString "0123456789").length 1).isEmpty) = decide (48 ≤ c ∧ c ≤ 57) := by
  rw [StrLaws.found_one, signs_ofString]
  show decide (c ∈ [48, 49, 50, 51, 52, 53, 54, 55, 56, 57]) = _
  apply decide_eq_decide.mpr
  simp only [List.mem_cons, List.not_mem_nil, or_false]
  omega
end Tx
namespace Fr
theorem absE (i : Int) : (if i < 0 then -i else i) = (i.natAbs : Int) := by omega
theorem gcd_turn (m n : Nat) : Nat.gcd n (m % n) = Nat.gcd m n := by
  rw [Nat.gcd_comm n (m % n), ← Nat.gcd_rec n m, Nat.gcd_comm]
def gcd (a b : Int) : Int := ((Nat.gcd a.natAbs b.natAbs : Nat) : Int)
theorem gcd_nn (a b : Int) : 0 ≤ gcd a b := Int.natCast_nonneg _
theorem gcd_pos {a b : Int} (h : b ≠ 0) : 0 < gcd a b := by
  unfold gcd
  have : 0 < Nat.gcd a.natAbs b.natAbs := Nat.gcd_pos_of_pos_right _ (by omega)
  omega
theorem gcd_le {a b : Int} (h : b ≠ 0) : gcd a b ≤ (b.natAbs : Int) := by
  unfold gcd
  have : Nat.gcd a.natAbs b.natAbs ≤ b.natAbs := Nat.gcd_le_right _ (by omega)
  omega
theorem gcd_dvd_l (a b : Int) : gcd a b ∣ a := by
  unfold gcd
  exact Int.ofNat_dvd_left.mpr (Nat.gcd_dvd_left _ _)
theorem gcd_dvd_r (a b : Int) : gcd a b ∣ b := by
  unfold gcd
  exact Int.ofNat_dvd_left.mpr (Nat.gcd_dvd_right _ _)
def sg (t b : Int) : Int := if b < 0 then 0 - gcd t b else gcd t b
def lt (t b : Int) : Int := t.fdiv (sg t b)
def lb (t b : Int) : Int := b.fdiv (sg t b)
theorem sg_ne {t b : Int} (h : b ≠ 0) : sg t b ≠ 0 := by
  unfold sg
  have := gcd_pos (a := t) h
  split <;> omega
theorem sg_abs {t b : Int} : (sg t b).natAbs = (gcd t b).natAbs := by
  unfold sg
  split <;> omega
theorem sg_dvd_t (t b : Int) : sg t b ∣ t := by
  unfold sg
  split
  · rw [Int.zero_sub]; exact Int.neg_dvd.mpr (gcd_dvd_l t b)
  · exact gcd_dvd_l t b
theorem sg_dvd_b (t b : Int) : sg t b ∣ b := by
  unfold sg
  split
  · rw [Int.zero_sub]; exact Int.neg_dvd.mpr (gcd_dvd_r t b)
  · exact gcd_dvd_r t b
theorem fdiv_mul {a g : Int} (h : g ∣ a) : a.fdiv g * g = a := by
  rw [Int.fdiv_eq_ediv_of_dvd h]
  exact Int.ediv_mul_cancel h
theorem lt_mul (t b : Int) : lt t b * sg t b = t := fdiv_mul (sg_dvd_t t b)
theorem lb_mul (t b : Int) : lb t b * sg t b = b := fdiv_mul (sg_dvd_b t b)
theorem lb_pos {t b : Int} (h : b ≠ 0) : 0 < lb t b := by
  have e := lb_mul t b
  have g := gcd_pos (a := t) h
  have hs : sg t b = if b < 0 then 0 - gcd t b else gcd t b := rfl
  rcases Int.lt_trichotomy (lb t b) 0 with z | z | z
  · exfalso
    by_cases hb : b < 0
    · rw [if_pos hb] at hs
      have : 0 < lb t b * sg t b := by
        rw [hs]
        exact Int.mul_pos_of_neg_of_neg z (by omega)
      omega
    · rw [if_neg hb] at hs
      have : lb t b * sg t b < 0 := by
        rw [hs]
        exact Int.mul_neg_of_neg_of_pos z g
      omega
  · rw [z] at e; omega
  · exact z
theorem log2_small {n k : Nat} (h : n < 2 ^ k) (hk : 0 < k) : n.log2 < k := by
  by_cases z : n = 0
  · subst z; simpa using hk
  · exact (Nat.log2_lt z).mpr h
theorem lb_abs {t b : Int} (h : b ≠ 0) : (lb t b).natAbs ≤ b.natAbs := by
  have e := lb_mul t b
  have g := sg_ne (t := t) h
  have h1 : (lb t b).natAbs * (sg t b).natAbs = b.natAbs := by rw [← Int.natAbs_mul, e]
  have h2 : 1 ≤ (sg t b).natAbs := by omega
  calc (lb t b).natAbs = (lb t b).natAbs * 1 := (Nat.mul_one _).symm
    _ ≤ (lb t b).natAbs * (sg t b).natAbs := Nat.mul_le_mul_left _ h2
    _ = b.natAbs := h1
end Fr
namespace Fr
theorem gcd_comm' (t b : Int) : ((b.gcd t : Nat) : Int) = gcd t b := by
  unfold gcd Int.gcd
  rw [Nat.gcd_comm]
theorem lt_num {t b : Int} (h : b ≠ 0) : lt t b = (Rat.divInt t b).num := by
  have g0 := gcd_pos (a := t) h
  rw [Rat.num_divInt, gcd_comm']
  have e := lt_mul t b
  have d : gcd t b ∣ b.sign * t := Int.dvd_mul_of_dvd_right (gcd_dvd_l t b)
  refine (Int.ediv_eq_of_eq_mul_left (by omega) ?_).symm
  have hs : sg t b = b.sign * gcd t b := by
    unfold sg
    rcases Int.lt_trichotomy b 0 with z | z | z
    · rw [if_pos z, Int.sign_eq_neg_one_of_neg z]; omega
    · exact absurd z h
    · rw [if_neg (by omega), Int.sign_eq_one_of_pos z]; omega
  have h2 : b.sign * b.sign = 1 := by
    rcases Int.lt_trichotomy b 0 with z | z | z
    · rw [Int.sign_eq_neg_one_of_neg z]; rfl
    · exact absurd z h
    · rw [Int.sign_eq_one_of_pos z]; rfl
  calc b.sign * t = b.sign * (lt t b * sg t b) := by rw [e]
    _ = (b.sign * b.sign) * (lt t b * gcd t b) := by rw [hs]; grind
    _ = lt t b * gcd t b := by rw [h2]; omega
theorem lb_den {t b : Int} (h : b ≠ 0) : lb t b = ((Rat.divInt t b).den : Int) := by
  have e1 := lt_mul t b
  have e2 := lb_mul t b
  have s0 := sg_ne (t := t) h
  have n := lt_num (t := t) h
  have c : (Rat.divInt t b).num * b = t * ((Rat.divInt t b).den : Int) := by
    have z : Rat.divInt (Rat.divInt t b).num ((Rat.divInt t b).den : Int) = Rat.divInt t b := Rat.num_divInt_den _
    have d0 : (((Rat.divInt t b).den : Nat) : Int) ≠ 0 := by
      have := (Rat.divInt t b).den_nz
      omega
    exact (Rat.divInt_eq_divInt_iff d0 h).mp z
  by_cases t0 : t = 0
  · subst t0
    have : Rat.divInt 0 b = 0 := Rat.zero_divInt b
    rw [this]
    have g : gcd 0 b = (b.natAbs : Int) := by unfold gcd; simp
    have bp := lb_pos (t := 0) h
    have a1 : (lb 0 b).natAbs * (sg 0 b).natAbs = b.natAbs := by rw [← Int.natAbs_mul, e2]
    rw [sg_abs, g] at a1
    have b0 : 0 < b.natAbs := by omega
    have a2 : (lb 0 b).natAbs = 1 := by
      have : (lb 0 b).natAbs * b.natAbs = 1 * b.natAbs := by simpa using a1
      exact Nat.eq_of_mul_eq_mul_right b0 this
    show lb 0 b = 1
    omega
  · rw [← n] at c
    have h1 : t * lb t b = t * ((Rat.divInt t b).den : Int) := by
      rw [← c]
      calc t * lb t b = (lt t b * sg t b) * lb t b := by rw [e1]
        _ = lt t b * (lb t b * sg t b) := by grind
        _ = lt t b * b := by rw [e2]
    exact Int.eq_of_mul_eq_mul_left t0 h1
theorem den_pos (q : Rat) : 0 < (q.den : Int) := by
  have := q.den_pos
  omega
theorem divInt_rat (q : Rat) : Rat.divInt q.num (q.den : Int) = q := Rat.num_divInt_den q
theorem den_ne (q : Rat) : (q.den : Int) ≠ 0 := by have := den_pos q; omega
theorem sum_rat (p q : Rat) : Rat.divInt (p.num * q.den + q.num * p.den) (p.den * q.den) = p + q := by
  rw [← Rat.divInt_add_divInt _ _ (den_ne p) (den_ne q), divInt_rat, divInt_rat]
theorem less_rat (p q : Rat) : Rat.divInt (p.num * q.den - q.num * p.den) (p.den * q.den) = p - q := by
  rw [← Rat.divInt_sub_divInt _ _ (den_ne p) (den_ne q), divInt_rat, divInt_rat]
theorem lt_rat (p q : Rat) : p.num * q.den < q.num * p.den ↔ p < q := (Rat.lt_iff p q).symm
end Fr
namespace Fr
theorem lt_abs (t b : Int) (h : b ≠ 0) : (lt t b).natAbs ≤ t.natAbs := by
  have e := lt_mul t b
  have g := sg_ne (t := t) h
  have h1 : (lt t b).natAbs * (sg t b).natAbs = t.natAbs := by rw [← Int.natAbs_mul, e]
  have h2 : 1 ≤ (sg t b).natAbs := by omega
  calc (lt t b).natAbs = (lt t b).natAbs * 1 := (Nat.mul_one _).symm
    _ ≤ (lt t b).natAbs * (sg t b).natAbs := Nat.mul_le_mul_left _ h2
    _ = t.natAbs := h1
end Fr
namespace L2
open PySem PySem.Spec PyProof.Rows
theorem TopFn.calN {c : Bool} {P : Program} {w : World} {K : PySem.W.Frag} {mg : Str → Option Value} {base : Heap} {x : Str} {st : Stmt} {N ps : List Str} {k : Nat} {sp : Sp} (T : TopFn K mg x st) (S : FnScope N ps (defScope st))
    (hb : ∀ (kV doc pm : Value) (an : Option Addr) (cdv ct : Value) (us : List Value), us.length = ps.length → bindArgs (PySem.W.fnOf x x (defArgs st) (defBody st) (defScope st) .none kV doc pm an cdv ct) ⟨us, []⟩ = pure (ps.zip us))
    (len : ∀ vs H Q E, sp vs H Q E → vs.length = ps.length)
    (hbody : ∀ (f : Addr) (cdv : Value) (A : Around) (outer : List Env) (s : Shared) (H : Hp) (vs : List V) (Q : VK) (E : XK), RoomB c k (A.deeper (envOfC x (defScope st) s.heap.objs.size f cdv)) → sp vs H Q E →
      ∃ t, PSs (cxB c P w K mg base N x (defScope st) f cdv A outer s H E).nox (defBody st) t ∧ t { nx := fun _ H' => Q .non H', rt := Q } (start N vs) H) : CalB P w K mg base c (k + 1) x ps sp :=
  T.calB S hb len fun f cdv A outer s H vs Q E hr h => by
    obtain ⟨t, h1, h2⟩ := hbody f cdv A outer s H vs Q E hr h
    exact ⟨t, h1.nox, h2⟩
theorem Fun.okB {c : Bool} {P : Program} {w : World} {K : PySem.W.Frag} {mg : Str → Option Value} {base : Heap} {x : Str} {st : Stmt} {f : Addr} {fd : FuncData} {N ps : List Str} {k : Nat} {sp : Sp} (F : Fun K x x st f fd) (S : FnScope N ps (defScope st))
    (len : ∀ vs H Q E, sp vs H Q E → vs.length = ps.length)
    (hbody : ∀ (cdv : Value) (A : Around) (outer : List Env) (s : Shared) (H : Hp) (vs : List V) (Q : VK) (E : XK), RoomB c k (A.deeper (envOfC x (defScope st) s.heap.objs.size f cdv)) → sp vs H Q E →
      ∃ t, PSs (cxB c P w K mg base N x (defScope st) f cdv A outer s H E).nox (defBody st) t ∧ t { nx := fun _ H' => Q .non H', rt := Q } (start N vs) H) : FnB P w K mg base c (k + 1) f fd ps sp := by
  obtain ⟨oc, od, kV, doc, pm, an, cdv, ct, osl, rfl, l, cd⟩ := id F.ex
  exact fnB_of l cd S len fun A outer s H vs Q E hr h => by
    obtain ⟨t, h1, h2⟩ := hbody cdv A outer s H vs Q E hr h
    exact ⟨t, h1.nox, h2⟩
end L2
namespace Lib
open PySem L2
def lim : Nat := 2 ^ 9000
theorem lim_log {n : Nat} (h : n < lim) : n.log2 < 9000 := Fr.log2_small h (by decide)
theorem lim_mul {n : Nat} (h : n < lim) : n < 2 ^ 10000 := Nat.lt_trans h (by unfold lim; decide +kernel)
def spDiv : Sp := fun vs H Q _ => ∃ a b : Int, vs = [.int a, .int b] ∧ Q (.int (Fr.gcd a b)) H
def spLaw (K : PySem.W.Frag) : Sp := fun vs H Q _ => ∃ (a : Addr) (ns : List Int), vs = [.ref a] ∧ SqL K H a (ns.map V.int) ∧ ns.length ≤ 63 ∧ ∀ H', Q (.bl true) H'
theorem decI (i j : Int) : decide (V.int i = V.int j) = decide (i = j) := by
  by_cases h : i = j
  · subst h; simp
  · have : ¬ V.int i = V.int j := fun z => h (V.int.inj z)
    rw [decide_eq_false h, decide_eq_false this]
theorem atI_in {xs : List V} {r : Int} (h0 : 0 ≤ r) (h1 : r < (xs.length : Int)) : ∃ v, atI xs r = some v ∧ v ∈ xs := by
  have hj : r.toNat < xs.length := by omega
  have e : ((r.toNat : Nat) : Int) = r := by omega
  have q : atI xs ((r.toNat : Nat) : Int) = some xs[r.toNat] := atI_nat (List.getElem?_eq_getElem hj)
  rw [e] at q
  exact ⟨_, q, List.getElem_mem hj⟩
theorem cut_ints (ns : List Int) (lo hi : Option Int) : ∀ x ∈ cutV (ns.map V.int) lo hi, ∃ z : Int, x = .int z := fun x hx => by
  unfold cutV at hx
  have h1 := List.mem_of_mem_drop (List.mem_of_mem_take hx)
  obtain ⟨z, _, rfl⟩ := List.mem_map.mp h1
  exact ⟨z, rfl⟩
end Lib
namespace Lib
open PySem L2
abbrev frO (q : Rat) : HO := .tup [.int q.num, .int (q.den : Int)]
def lim2 : Nat := 2 ^ 4000
theorem lim2_lim : lim2 < lim := by unfold lim lim2; decide +kernel
theorem lim2_sq : lim2 * lim2 + lim2 * lim2 < lim := by unfold lim lim2; decide +kernel
structure Sm (q : Rat) : Prop where
  n : q.num.natAbs < lim2
  d : q.den < lim2
theorem Sm.neg {q : Rat} (h : Sm q) : Sm (-q) := ⟨by rw [Rat.neg_num, Int.natAbs_neg]; exact h.n, by rw [Rat.neg_den]; exact h.d⟩
theorem nat_mul_lt {a b : Nat} (ha : a < lim2) (hb : b < lim2) : a * b < lim2 * lim2 := Nat.mul_lt_mul'' ha hb
theorem mul_lim {x y : Int} (hx : x.natAbs < lim2) (hy : y.natAbs < lim2) : (x * y).natAbs < lim := by
  rw [Int.natAbs_mul]
  have := nat_mul_lt hx hy
  have := lim2_sq
  omega
theorem mulW {x y : Int} (hx : x.natAbs < lim2) (hy : y.natAbs < lim2) : CMulW x y := ⟨lim_mul (Nat.lt_trans hx lim2_lim), lim_mul (Nat.lt_trans hy lim2_lim)⟩
theorem Sm.dn {q : Rat} (h : Sm q) : ((q.den : Int)).natAbs < lim2 := by rw [Int.natAbs_natCast]; exact h.d
theorem den0 (q : Rat) : ((q.den : Nat) : Int) ≠ 0 := by have := q.den_nz; omega
theorem denp (q : Rat) : (0 : Int) < ((q.den : Nat) : Int) := by have := q.den_nz; omega
theorem den_mul0 (p q : Rat) : ((p.den : Int)) * (q.den : Int) ≠ 0 := Int.mul_ne_zero (den0 p) (den0 q)
theorem frO_of {t b : Int} (h : b ≠ 0) : (HO.tup [.int (Fr.lt t b), .int (Fr.lb t b)]) = frO (Rat.divInt t b) := by
  rw [Fr.lt_num h, Fr.lb_den h]
theorem frO_gcd (q : Rat) : Fr.gcd q.num (q.den : Int) = 1 := by
  unfold Fr.gcd
  have := q.reduced
  unfold Nat.Coprime at this
  rw [Int.natAbs_natCast, this]
  rfl
end Lib
namespace Lib
open PySem L2
end Lib
namespace Tx
open PySem PySem.Builtin PySem.Builtin.Str PySem.NumText PyProof.Rows
theorem dg_len {m k : Nat} (hk : 0 < k) : (dg m).length ≤ k ↔ m < 10 ^ k := by
  unfold dg
  rw [List.length_map]
  exact Nat.length_toDigits_le_iff (by decide) hk
theorem dg_pos (m : Nat) : 1 ≤ (dg m).length := by
  have := dg_ne m
  cases h : dg m with
  | nil => exact absurd h this
  | cons a r => simp
structure Short (q : Rat) : Prop where
  n : q.num.natAbs < 10 ^ 15
  d : q.den < 10 ^ 15
theorem no_stroke (m : Nat) : 47 ∉ dg m := fun h => by have := dg_digits m 47 h; omega
theorem no_minus (m : Nat) : 45 ∉ dg m := fun h => by have := dg_digits m 45 h; omega
theorem head_dg (m : Nat) (r : List Nat) : (dg m ++ r).head? ≠ some 45 := by
  cases h : dg m with
  | nil => exact absurd h (dg_ne m)
  | cons a l =>
    intro e
    have e' : some a = some 45 := e
    cases e'
    exact no_minus m (by rw [h]; exact List.mem_cons_self ..)
theorem sh_head (q : Rat) : decide ((sh q).head? = some 45) = decide (q.num < 0) := by
  apply decide_eq_decide.mpr
  unfold sh
  by_cases h : q.num < 0
  · rw [if_pos h]; simp [h]
  · rw [if_neg h, List.nil_append]
    exact ⟨fun e => absurd e (head_dg _ _), fun e => absurd e h⟩
def bd (q : Rat) : List Nat := dg q.num.natAbs ++ (if q.den = 1 then [] else 47 :: dg q.den)
theorem sh_bd (q : Rat) : (if q.num < 0 then (sh q).drop 1 else sh q) = bd q := by
  unfold sh bd
  by_cases h : q.num < 0
  · rw [if_pos h, if_pos h]; rfl
  · rw [if_neg h, if_neg h]; rfl
theorem cut_bd (q : Rat) : cut 47 (bd q) = if q.den = 1 then [dg q.num.natAbs] else [dg q.num.natAbs, dg q.den] := by
  unfold bd
  by_cases h : q.den = 1
  · rw [if_pos h, if_pos h, List.append_nil, cut_free (no_stroke _)]
  · rw [if_neg h, if_neg h, cut_app _ (no_stroke _), cut_free (no_stroke _)]
theorem sh_len (q : Rat) (h : Short q) : (sh q).length ≤ 40 := by
  have h1 := (dg_len (m := q.num.natAbs) (k := 15) (by decide)).mpr h.n
  have h2 := (dg_len (m := q.den) (k := 15) (by decide)).mpr h.d
  unfold sh
  rw [List.length_append, List.length_append]
  split <;> split <;> simp only [List.length_cons, List.length_nil] <;> omega
theorem txt_frac (q : Rat) : (PySem.Str.empty ++ PySem.Str.ofString (toString q.num)) ++ (PySem.Str.ofString "/") ++ PySem.Str.ofString (toString ((q.den : Nat) : Int)) = (⟨((if q.num < 0 then [45] else []) ++ dg q.num.natAbs ++ 47 :: dg q.den).toArray⟩ : PySem.Str) := by
  apply ext
  rw [cl_app, cl_app, cl_app, cl_num, cl_num]
  show [] ++ _ ++ [47] ++ _ = _
  rw [cl, List.toList_toArray, if_neg (show ¬ (((q.den : Nat) : Int) < 0) by omega)]
  simp
end Tx
namespace Lib
open PySem L2 Tx PySem.NumText
theorem all_fig (x : PySem.Str) : ((PyProof.Rows.signs x).map fun z => V.bl (!(PySem.Builtin.Str.occurrences (PySem.Str.ofString "0123456789") z 0 (PySem.Str.ofString "0123456789").length 1).isEmpty)) = ((cl x).map fun c => decide (48 ≤ c ∧ c ≤ 57)).map V.bl := by
  unfold PyProof.Rows.signs
  rw [List.map_map, List.map_map]
  apply List.map_congr_left
  intro c _
  show V.bl (!(PySem.Builtin.Str.occurrences (PySem.Str.ofString "0123456789") ⟨#[c]⟩ 0 (PySem.Str.ofString "0123456789").length 1).isEmpty) = V.bl (decide (48 ≤ c ∧ c ≤ 57))
  rw [digit_in]
theorem all_iff (l : List Nat) : ((l.map fun c => decide (48 ≤ c ∧ c ≤ 57)).all id) = true ↔ AllDigits l := by
  unfold AllDigits
  rw [List.all_map, List.all_eq_true]
  simp
end Lib
namespace Lib
open PySem L2 Tx PySem.NumText
theorem cl_num_len {i : Int} (h : i.natAbs.log2 < 1920) : (PySem.Str.ofString (toString i)).length ≤ 2000 := by
  rw [← cl_len, cl_num, List.length_append]
  have h1 : i.natAbs < 10 ^ 1900 := by
    by_cases z : i.natAbs = 0
    · rw [z]; exact Nat.pow_pos (by decide)
    · have h2 : i.natAbs < 2 ^ 1920 := (Nat.log2_lt z).mp h
      exact Nat.lt_trans h2 (by decide +kernel)
  have h3 := (dg_len (m := i.natAbs) (k := 1900) (by decide)).mpr h1
  split <;> simp only [List.length_cons, List.length_nil] <;> omega
theorem app_len (x y : PySem.Str) : (x ++ y).length = x.length + y.length := by
  rw [← cl_len, cl_app, List.length_append, cl_len, cl_len]
theorem size2 {n : Nat} (h : n ≤ 10000) : n ≤ sizeLine := Nat.le_trans h (by decide)
end Lib
namespace Tx
theorem cut_ne (c : Nat) : ∀ l : List Nat, cut c l ≠ []
  | [] => by simp [cut]
  | a :: r => by
    unfold cut
    split
    · simp
    · split <;> simp
theorem str_minus : PySem.Str.ofString "-" = ⟨#[45]⟩ := by rfl
theorem str_stroke : PySem.Str.ofString "/" = ⟨#[47]⟩ := by rfl
end Tx
namespace Lib
open PySem L2 Tx PySem.NumText
theorem log_15 {m : Nat} (h : m < 10 ^ 15) : m.log2 < 1920 := Fr.log2_small (Nat.lt_trans h (by decide +kernel)) (by decide)
end Lib
namespace Lib
open PySem L2 Tx
end Lib
namespace L2
open PySem PySem.Spec PyProof.Rows
section
variable {prog : Program} {w : World} {A : Around} {R : Result → Shared → Prop} {s : Shared}
theorem compLoop_own {elt target iter : Expr} {ifs : List Expr} {scope : Scope} {pos : Pos} {it acc : Value} {env : Env} (I : Nat → Shared → Prop)
    (turn : ∀ n s, I n s → wpAny (model prog w) A (pyNext it) (fun r s₁ => match r with
      | none => R (.ok .next) s₁
      | some v => wpAny (model prog w) A (letOwnedTupleGo target it v) (fun _ s₁' => wpAny (model prog w) A (assign target env v) (fun _ s₂ =>
          wpAny (model prog w) A (forIn ifs true fun c r => if r = true then do let ok ← isTrue c env (eval c env); pure (ForInStep.yield ok) else pure (ForInStep.yield r)) (fun ok s₃ =>
            if ok = true then wpAny (model prog w) A (eval elt env) (fun x s₄ =>
              wpAny (model prog w) A (call (.builtin "list.append") [acc, x]) (fun _ s₅ => ∃ m, m < n ∧ I m s₅) (fun _ _ => False) s₄) (fun _ _ => False) s₃
            else ∃ m, m < n ∧ I m s₃) (fun _ _ => False) s₂) (fun _ _ => False) s₁') (fun _ _ => False) s₁) (fun _ _ => False) s)
    (n : Nat) (h : I n s) :
    codeAny (model prog w) A (.compLoop (.ListComp elt [⟨target, iter, ifs, 0⟩] scope pos) 0 it acc env) R s := by
  refine codeAny_loop rfl I (fun n s hI => ?_) n h
  show wpAny _ A ((compTurn (.ListComp elt [⟨target, iter, ifs, 0⟩] scope pos) 0 it acc env).onRaise (fun x => do noteFrame x env; theTreesLotGoes x)) _ _ s
  refine wpAny_noted ?_
  rw [compTurn_list]
  refine wpAny_bind (wpAny_standAt (wpAny_bind (wpAny_mono (turn n s hI) (fun r s₁ h₁ => ?_) fun _ _ z => z.elim)))
  cases r with
  | none => exact wpAny_pure h₁
  | some v =>
    refine wpAny_bind (wpAny_mono h₁ (fun _ s₁' h₁' => ?_) fun _ _ z => z.elim)
    refine wpAny_bind (wpAny_mono h₁' (fun _ s₂ h₂ => wpAny_bind (wpAny_mono h₂ (fun ok s₃ h₃ => ?_) fun _ _ z => z.elim)) fun _ _ z => z.elim)
    cases ok with
    | false => exact wpAny_pure ⟨rfl, h₃⟩
    | true =>
      exact wpAny_bind (wpAny_bind (wpAny_mono h₃ (fun x s₄ h₄ => wpAny_bind (wpAny_mono h₄ (fun _ s₅ h₅ => wpAny_pure (wpAny_pure ⟨rfl, h₅⟩)) fun _ _ z => z.elim)) fun _ _ z => z.elim))
end
def cxC (X : Cx) (scope : Scope) (cl : List (Str × Addr)) (N' : List Str) (C : Addr) (fp : List Addr) (pins : List (Addr × Obj)) (s2 : Shared) (H2 : Hp) : Cx :=
  { X with N := N', s₀ := s2, H₀ := H2, env := compEnvC scope cl C X.env, outer := X.stack, ex := fp, fn := fun _ => false, pn := X.pn ++ pins, xe := fun _ _ => False }
structure CapOk (X : Cx) (scope : Scope) (cl : List (Str × Addr)) : Prop where
  clos : closureFor scope X.env = pure cl
  sub : ∀ y c, cl.lookup y = some c → X.env.cells.lookup y = some c
  has : ∀ y, ((relabel scope X.env).names.lookup y = some .cell ∨ (relabel scope X.env).names.lookup y = some .free) → ∃ c, cl.lookup y = some c
theorem relabel_same {scope : Scope} {env : Env} (hfree : ∀ y ∈ scope.names, y.2 ≠ .free) : (relabel scope env).names = scope.names := by
  unfold relabel
  exact map_eq_self (l := scope.names) fun x hx => by
    obtain ⟨n, k⟩ := x
    have : (k == NameKind.free) = false := by simpa using hfree _ hx
    simp [this]
theorem cap_nil {X : Cx} {scope : Scope} (hfree : ∀ y ∈ scope.names, y.2 ≠ .free) (hcell : ∀ y ∈ scope.names, y.2 ≠ .cell) : CapOk X scope [] := by
  refine ⟨closureFor_none hfree, fun y c e => (by simp at e), fun y e => ?_⟩
  rw [relabel_same hfree] at e
  exfalso
  rcases e with e | e
  · exact hcell _ (PySem.mem_of_lookup e) rfl
  · exact hfree _ (PySem.mem_of_lookup e) rfl
def capSt (caps : List (Option Nat)) (σ : St) : St := caps.map fun o => o.bind fun j => (σ[j]?).join
section
variable {X : Cx} {pins : List (Addr × Obj)} {σ : St} {H2 : Hp} {s2 : Shared} {scope : Scope} {cl : List (Str × Addr)} {N' : List Str} {C : Addr} {fp : List Addr} {caps : List (Option Nat)}
theorem notStk (I : Inv X pins σ H2 s2) {b : Addr} (h1 : b ≠ X.env.locals) (h2 : b ∉ X.fs) : b ∉ frs X.stack := fun z => (List.mem_cons.mp (I.stkSub b z)).elim h1 h2
theorem inv_comp (I : Inv X pins σ H2 s2) (hf : ∀ b ∈ fp, FpOk X pins H2 b) (hl : ∀ b ∈ fp, b < s2.heap.objs.size) (hk : scope.kind = .function) (cap : CapOk X scope cl) (hC : s2.heap.objs.size ≤ C) {s4 : Shared} (os : s4.os = s2.os) (bare : AllBare s4.gens)
    (k : ∀ b o, s2.heap.get? b = some o → s4.heap.get? b = some o) (ns : s4.heap.Ns C fun _ => none) (hN : caps.length = N'.length)
    (hcap : ∀ (i j : Nat), caps[i]? = some (some j) → ∃ y : Str, N'[i]? = some y ∧ X.N[j]? = some y ∧ (relabel scope X.env).names.lookup y = some .cell ∧ X.env.scope.names.lookup y = some .cell) :
    Inv (cxC X scope cl N' C fp pins s2 H2) [] (capSt caps σ) H2 s4 := by
  have neC : ∀ b : Addr, b < s2.heap.objs.size → b ≠ C := fun b h => Nat.ne_of_lt (Nat.lt_of_lt_of_le h hC)
  refine ⟨⟨I.ok.mod, ?_, I.ok.glob, I.ok.blt, hC, fun y z c h1 h2 => I.ok.inj y z c (cap.sub y c h1) (cap.sub z c h2), fun y h => cap.has y h, (fun y c z => nomatch z), I.ok.hd, I.ok.frames, .inl rfl, fun b hb => ⟨neC b (hl b hb), fun y c e => (hf b hb).2.2.2.2.1 y c (cap.sub y c e)⟩,
    fun b o e => I.bs b o e, Nat.le_trans I.ok.bsz I.sz, fun b o e hb => ?_, fun b hb => notStk I (hf b hb).2.1 (hf b hb).2.2.1, I.stack, I.stkFree⟩,
    os, bare, Un.kept k, ⟨_, ns, fun i y v h1 h2 h3 => ?_⟩, fun y c e => ?_, I.hok.fresh hC, fun y c e => I.freeC y c (cap.sub y c e), fun p hp => ?_, I.hok.kept k, ?_⟩
  · show (relabel scope X.env).kind = .function
    exact hk
  · rcases (hf b hb).2.2.2.1 with z | z
    · exact I.ok.noex b o e z
    · exact absurd (Nat.lt_of_lt_of_le (Heap.lt_size e) (Nat.le_trans I.ok.bsz z)) (Nat.lt_irrefl _)
  · have h1 : N'[i]? = some y := h1
    unfold capSt at h2
    rw [List.getElem?_map] at h2
    cases hc : caps[i]? with
    | none => rw [hc] at h2; cases h2
    | some o =>
      rw [hc] at h2
      cases o with
      | none => cases h2
      | some j =>
        obtain ⟨y', e1, e2, e3, e4⟩ := hcap i j hc
        rw [h1] at e1
        cases e1
        have hj : σ[j]? = some (some v) := by
          have z : (σ[j]?).join = some v := by simpa using h2
          cases q : σ[j]? with
          | none => rw [q] at z; cases z
          | some w' => rw [q] at z; exact congrArg some z
        obtain ⟨m, hn, hm⟩ := I.loc
        obtain ⟨u, ru, lk⟩ := hm j y v e2 hj (.inr (.inl e4))
        refine ⟨u, ru, .inr ⟨.inl e3, ?_⟩⟩
        rcases lk with ⟨z, _⟩ | ⟨_, c, ec, o', ho', hd'⟩
        · rw [show X.env.kindOf y = X.env.scope.names.lookup y from rfl, e4] at z; cases z
        · obtain ⟨c', ec'⟩ := cap.has y (.inl e3)
          have := cap.sub y c' ec'
          rw [ec] at this
          cases this
          exact ⟨c, ec', o', k _ _ ho', hd'⟩
  · obtain ⟨v, o, ho, hd⟩ := I.cell y c (cap.sub y c e)
    exact ⟨v, o, k _ _ ho, hd⟩
  · have hp : p ∈ (X.pn ++ pins) ++ [] := hp
    rw [List.append_nil] at hp
    obtain ⟨e, n, ne, nf, d⟩ := I.pin p hp
    exact ⟨k _ _ e, n, neC _ (Heap.lt_size e), notStk I ne nf, d⟩
  · show (capSt caps σ).length = N'.length
    unfold capSt
    rw [List.length_map]
    exact hN
theorem comp_end {pl : List (Addr × Obj)} {σ' : St} {H' : Hp} {s' : Shared} {D : Addr} {items : Array Value} {ys : List V} {h'' : Heap} (I : Inv X pins σ H2 s2) (hf : ∀ b ∈ fp, FpOk X pins H2 b) (I' : Inv (cxC X scope cl N' C fp pins s2 H2) pl σ' H' s')
    (hpl : s'.heap.PlainList D items) (nD : H' D = none) (newD : s2.heap.get? D = none) (hDC : D ≠ C) (rv : Vals ys items.toList) (hz : ys.length ≤ sizeLine) (sb : Heap.SameBut C s'.heap h'') : Inv X pins σ (upd H' D (.lst ys)) { s' with heap := h'' } := by
  have hC : s2.heap.objs.size ≤ C := I'.ok.above
  have neC : ∀ b o, s2.heap.get? b = some o → b ≠ C := fun b o e => Nat.ne_of_lt (Nat.lt_of_lt_of_le (Heap.lt_size e) hC)
  have nC : H' C = none := I'.free
  obtain ⟨n0, ho⟩ := hpl
  refine I.call' (s' := { s' with heap := h'' }) (ch := fp) I'.os ⟨fun b o e n hb hx => sb.extBut b o (neC b o e) (I'.base.keep b o e n hb hx), fun b o e n hb hx => ?_, fun b o e n hx => ?_, fun b o e hx => ?_, fun b xs e => ?_, fun b o u e => ?_, fun b ps e => ?_⟩ (fun b o e => ?_) I'.bare fun b hb => ?_
  · obtain ⟨sl, q⟩ := I'.base.slot b o e n hb hx
    exact ⟨sl, sb.extBut b _ (neC b o e) q⟩
  · have : b ≠ D := fun z => by rw [z, newD] at e; cases e
    rw [upd_ne this]
    exact I'.base.free b o e n hx
  · obtain ⟨o', q⟩ := I'.base.there b o e hx
    exact ⟨o', sb.extBut b _ (neC b o e) q⟩
  · have q := I'.base.tups b xs e
    rw [upd_ne (ne_of_none q nD)]; exact q
  · have q := I'.base.frzs b o u e
    rw [upd_ne (ne_of_none q nD)]; exact q
  · obtain ⟨m, q⟩ := I'.base.tbls b ps e
    exact ⟨m, by rw [upd_ne (ne_of_none q nD)]; exact q⟩
  · by_cases hb : b = D
    · subst hb
      rw [upd_same] at e
      cases e
      exact ⟨hz, items.toList, n0, rv, sb.extBut _ _ hDC ho⟩
    · rw [upd_ne hb] at e
      refine (I'.hok b o e).stay (fun c v hc q => sb.extBut c v ?_ q) (fun c q => by rw [upd_ne (ne_of_none q nD)]; exact q) fun c xs q => by rw [upd_ne (ne_of_none q nD)]; exact q
      intro z
      subst z
      rcases hc with z | z
      · rw [← z, nC] at e; cases e
      · rw [nC] at z; cases z
  · obtain ⟨f0, f1, f2, f3, f4, f5⟩ := hf b hb
    exact ⟨f3, f1, f4, f5⟩
end
def PIfs (X : Cx) (ifs : List Expr) (t : TT) : Prop :=
  ∀ (pins : List (Addr × Obj)) (s : Shared) (σ : St) (H : Hp) (Q : Bool → Hp → Prop), Inv X pins σ H s → t σ H Q →
    wpAny (model X.prog X.w) X.A (forIn ifs true fun c r => if r = true then do let ok ← isTrue c X.env (eval c X.env); pure (ForInStep.yield ok) else pure (ForInStep.yield r)) (TP X pins σ Q) X.xe s
def tYes : TT := fun _ H Q => Q true H
theorem pifs_nil {X : Cx} : PIfs X [] tYes := fun pins s σ H Q I h => by
  simp only [List.forIn_nil]
  exact wpAny_pure ⟨H, I, h⟩
def tCompB (g : TG) (tt : TT) (te : TE) (J : It) (σ : St) (H1 : Hp) (Q : VK) : Prop := ∃ W : Nat → Nat → St → List V → Hp → Prop, (∃ m, W 0 m σ [] H1) ∧ ∀ i m σ' ys H, W i m σ' ys H → ys.length ≤ sizeLine ∧
  ((J.stop i H ∧ ∀ p, H p = none → Q (.ref p) (upd H p (.lst ys))) ∨
   (J.go i H ∧ ∀ x H', J.yld i H x H' → g x σ' H' fun σ2 H2 => tt σ2 H2 fun b H3 => if b = true then te σ2 H3 fun y H4 => ∃ m', m' < m ∧ W (i + 1) m' σ2 (ys ++ [y]) H4 else ∃ m', m' < m ∧ W (i + 1) m' σ2 ys H3))
def tComp (wi : TI) (g : TG) (tt : TT) (te : TE) (caps : List (Option Nat)) : TE := fun σ H Q => wi σ H fun J H1 => tCompB g tt te J (capSt caps σ) H1 Q
theorem comp_run {X : Cx} {tg elt iter : Expr} {ifs : List Expr} {scope : Scope} {pos : Pos} {wi : TI} {g : TG} {tt : TT} {te : TE} {cl : List (Str × Addr)} (N' : List Str) (caps : List (Option Nat)) (hc : X.calm = true) (hi : PI X tg iter wi)
    (hg : ∀ C fp pins s2 H2, PG (cxC X scope cl N' C fp pins s2 H2) tg g) (ht : ∀ C fp pins s2 H2, PIfs (cxC X scope cl N' C fp pins s2 H2) ifs tt) (he : ∀ C fp pins s2 H2, PE (cxC X scope cl N' C fp pins s2 H2) elt te)
    (cap : CapOk X scope cl) (hcell : ∀ y ∈ scope.names, y.2 ≠ .cell) (hkind : scope.kind = .function) (hnames : ∀ y ∈ scope.names, y.2 = .local → scope.names.lookup y.1 = some .local) (hN : caps.length = N'.length)
    (hcap : ∀ (i j : Nat), caps[i]? = some (some j) → ∃ y : Str, N'[i]? = some y ∧ X.N[j]? = some y ∧ (relabel scope X.env).names.lookup y = some .cell ∧ X.env.scope.names.lookup y = some .cell)
    (hs : ∀ x, foldedSetIterable iter X.env x = pure x) {pins : List (Addr × Obj)} {s : Shared} {σ : St} {H : Hp} {Q : VK} {use : Option (Value → Sem Unit)} {QQ : Value → Shared → Prop}
    (fin : ∀ (C D : Addr) (fp : List Addr) (s2 s4 : Shared) (H2 H4 : Hp) (pl : List (Addr × Obj)) (σ' : St) (items : Array Value) (ys : List V), Inv X pins σ H2 s2 → (∀ b ∈ fp, FpOk X pins H2 b) → Inv (cxC X scope cl N' C fp pins s2 H2) pl σ' H4 s4 → s4.heap.PlainList D items → H4 D = none → s2.heap.get? D = none → D ≠ C →
      Vals ys items.toList → ys.length ≤ sizeLine → (∀ p, H4 p = none → Q (.ref p) (upd H4 p (.lst ys))) → compPost (model X.prog X.w) X.A X.xe use QQ (.ref D) C (.ok .next) s4)
    (I : Inv X pins σ H s) (h : tComp wi g tt te caps σ H Q) : wpAny (model X.prog X.w) X.A (comprehension (.ListComp elt [⟨tg, iter, ifs, 0⟩] scope pos) scope X.env (firstIterPos [⟨tg, iter, ifs, 0⟩] pos) (newList []) false (eval iter X.env) use) QQ X.xe s := by
  refine wpAny_comprehension_free (use := use) rfl hs cap.clos hkind hnames (thn (hi pins s σ H _ I h) fun xv s₁ h₁ => thn h₁ fun itv s₂ h₂ => ?_)
  obtain ⟨it, fp, tn, J, H2, rfl, I2, T, st2, f2, W, ⟨m0, w0⟩, turn⟩ := h₂
  have hfp : ∀ b ∈ fp, b < s₂.heap.objs.size := fun b hb => by obtain ⟨o, e, _⟩ := T.obj _ _ st2 b hb; exact Heap.lt_size e
  refine wpAny_newObj_type (wpAny_newFunctionEnv hcell (by intro y hy; simp at hy) (fun h₁ hns₁ hsb₁ => ?_) hkind)
  dsimp only at hns₁ hsb₁ ⊢
  generalize hH2 : s₂.heap.push { cls := .type "list", dict := none, data := .seq ([] : List Value).toArray } = H2' at hns₁ hsb₁ ⊢
  have hC : H2'.objs.size = s₂.heap.objs.size + 1 := by rw [← hH2, Heap.size_push]
  have hDC : s₂.heap.objs.size ≠ H2'.objs.size := by rw [hC]; exact Nat.ne_of_lt (Nat.lt_succ_self _)
  have hCle : s₂.heap.objs.size ≤ H2'.objs.size := by rw [hC]; exact Nat.le_succ _
  have below : ∀ b, b < s₂.heap.objs.size → b ≠ H2'.objs.size := fun b hb => by rw [hC]; exact Nat.ne_of_lt (Nat.lt_succ_of_lt hb)
  have old : ∀ b o, s₂.heap.get? b = some o → h₁.get? b = some o := fun b o e => hsb₁.extBut b o (below b (Heap.lt_size e)) (Heap.get?_push_of_some _ (hH2 ▸ Heap.get?_push_of_some _ e))
  have hacc : h₁.PlainList s₂.heap.objs.size #[] := ⟨_, hsb₁.extBut _ _ hDC (Heap.get?_push_of_some _ (hH2 ▸ Heap.get?_push_size _ rfl))⟩
  have newD : s₂.heap.get? s₂.heap.objs.size = none := Heap.get?_none_of_le (Nat.le_refl _)
  have nD2 : H2 s₂.heap.objs.size = none := I2.hok.fresh (Nat.le_refl _)
  generalize hDD : s₂.heap.objs.size = D at *
  generalize hCC : H2'.objs.size = C at *
  have fpD : ∀ b ∈ fp, b ≠ D := fun b hb => Nat.ne_of_lt (hfp b hb)
  have statX : ∀ {H' : Hp} {pl : List (Addr × Obj)}, (∀ p ∈ pl, p.1 = D) → (∀ b ∈ fp, H' b = none) → ∀ b ∈ fp, FpOk (cxC X scope cl N' C fp pins s₂ H2) pl H' b := fun {H' pl} hpl hn b hb => by
    obtain ⟨f0, f1, f2', f3, f4, f5⟩ := f2 b hb
    refine ⟨hn b hb, below b (hfp b hb), notStk I2 f1 f2', .inl hb, fun y c e => f4 y c (cap.sub y c e), fun p hp => ?_⟩
    rcases List.mem_append.mp hp with hp | hp
    · exact f5 p hp
    · rw [hpl p hp]; exact (fpD b hb).symm
  have ht' : ∀ n s', (∃ i σ' ys, ∃ (items : Array Value), ∃ H', Inv (cxC X scope cl N' C fp pins s₂ H2) [] σ' H' s' ∧ tn i s'.heap ∧ (∀ b ∈ fp, H' b = none) ∧ s'.heap.PlainList D items ∧ Vals ys items.toList ∧ H' D = none ∧ W i n σ' ys H') →
      wpAny (model X.prog X.w) X.A (pyNext (.ref it)) (fun r s₁ => match r with
      | none => compPost (model X.prog X.w) X.A X.xe use QQ (.ref D) C (.ok .next) s₁
      | some v => wpAny (model X.prog X.w) X.A (letOwnedTupleGo tg (.ref it) v) (fun _ s₁' => wpAny (model X.prog X.w) X.A (assign tg (compEnvC scope cl C X.env) v) (fun _ s₂' =>
          wpAny (model X.prog X.w) X.A (forIn ifs true fun c r => if r = true then do let ok ← isTrue c (compEnvC scope cl C X.env) (eval c (compEnvC scope cl C X.env)); pure (ForInStep.yield ok) else pure (ForInStep.yield r)) (fun ok s₃ =>
            if ok = true then wpAny (model X.prog X.w) X.A (eval elt (compEnvC scope cl C X.env)) (fun x s₄ =>
              wpAny (model X.prog X.w) X.A (call (.builtin "list.append") [.ref D, x]) (fun _ s₅ => ∃ m, m < n ∧ ∃ i σ' ys, ∃ (items : Array Value), ∃ H', Inv (cxC X scope cl N' C fp pins s₂ H2) [] σ' H' s₅ ∧ tn i s₅.heap ∧ (∀ b ∈ fp, H' b = none) ∧ s₅.heap.PlainList D items ∧ Vals ys items.toList ∧ H' D = none ∧ W i m σ' ys H') (fun _ _ => False) s₄) (fun _ _ => False) s₃
            else ∃ m, m < n ∧ ∃ i σ' ys, ∃ (items : Array Value), ∃ H', Inv (cxC X scope cl N' C fp pins s₂ H2) [] σ' H' s₃ ∧ tn i s₃.heap ∧ (∀ b ∈ fp, H' b = none) ∧ s₃.heap.PlainList D items ∧ Vals ys items.toList ∧ H' D = none ∧ W i m σ' ys H') (fun _ _ => False) s₂') (fun _ _ => False) s₁') (fun _ _ => False) s₁) (fun _ _ => False) s' := by
    rintro n s3 ⟨i, σ3, ys, items, H3, I3, st3, fr3, pl3, rv3, nD3, w3⟩
    obtain ⟨hz, hw⟩ := turn i n σ3 ys H3 w3
    obtain ⟨n0, ho⟩ := id pl3
    have nfsD : D ∉ frs X.stack := fun z => by
      obtain ⟨_, o, e, _⟩ := I2.stack.mem z
      rw [newD] at e; cases e
    have I3p : Inv (cxC X scope cl N' C fp pins s₂ H2) [(D, { cls := .type "list", data := .seq items n0 })] σ3 H3 s3 := I3.pins_of fun p hp => by
      have e : p = (D, { cls := .type "list", data := .seq items n0 }) := by simpa using hp
      subst e
      exact ⟨ho, nD3, hDC, nfsD, fun v z => by cases z⟩
    have one : ∀ p ∈ [(D, ({ cls := .type "list", data := .seq items n0 } : Obj))], p.1 = D := fun p hp => by
      have e : p = (D, { cls := .type "list", data := .seq items n0 }) := by simpa using hp
      subst e; rfl
    rcases hw with ⟨stop, qn⟩ | ⟨go, step⟩
    · refine thn (T.done (cxC X scope cl N' C fp pins s₂ H2) rfl rfl rfl hc i _ s3 σ3 H3 (fun _ _ => False) I3p (statX one fr3) st3 stop) fun r s4 ⟨hr, I4⟩ => ?_
      subst hr
      obtain ⟨e4, nD4, _⟩ := I4.pin _ (List.mem_append_right _ (List.mem_singleton.mpr rfl))
      exact fin C D fp s₂ s4 H2 H3 _ σ3 items ys I2 f2 I4 ⟨n0, e4⟩ nD4 (hDD ▸ newD) hDC rv3 hz qn
    · refine thn (T.item (cxC X scope cl N' C fp pins s₂ H2) rfl rfl rfl hc i _ s3 σ3 H3 (fun _ _ => False) I3p (statX one fr3) st3 go) fun r s4 ⟨u, hr, h4⟩ => ?_
      subst hr
      refine thn h4 fun _ s5 ⟨x, H5, I5, r5, y5, st5, fr5⟩ => ?_
      have I5' := I5.pinned (statX one fr5) (T.obj _ _ st5)
      refine thn (hg C fp pins s₂ H2 _ s5 σ3 H5 x u _ I5' r5 (step x H5 y5)) fun _ s6 ⟨σ6, H6, I6, q6⟩ => ?_
      refine thn (ht C fp pins s₂ H2 _ s6 σ6 H6 _ I6 q6) fun b s7 ⟨H7, I7, q7⟩ => ?_
      have back : ∀ {H8 : Hp} {s8 : Shared}, Inv (cxC X scope cl N' C fp pins s₂ H2) ([(D, ({ cls := .type "list", data := .seq items n0 } : Obj))] ++ pinsAt fp s5.heap) σ6 H8 s8 →
          Inv (cxC X scope cl N' C fp pins s₂ H2) [] σ6 H8 s8 ∧ tn (i + 1) s8.heap ∧ (∀ b ∈ fp, H8 b = none) ∧ s8.heap.PlainList D items ∧ H8 D = none := fun {H8 s8} I8 => by
        refine ⟨I8.pins_of (fun p hp => nomatch hp), T.keep _ _ _ st5 fun b hb o e => (I8.pin (b, o) (List.mem_append_right _ (List.mem_append_right _ (mem_pinsAt hb e)))).1, fun b hb => ?_, ?_, ?_⟩
        · obtain ⟨o, e, d⟩ := T.obj _ _ st5 b hb
          exact (I8.pin (b, o) (List.mem_append_right _ (List.mem_append_right _ (mem_pinsAt hb e)))).2.1
        · exact ⟨n0, (I8.pin _ (List.mem_append_right _ (List.mem_append_left _ (List.mem_singleton.mpr rfl)))).1⟩
        · exact (I8.pin _ (List.mem_append_right _ (List.mem_append_left _ (List.mem_singleton.mpr rfl)))).2.1
      cases b with
      | false =>
        rw [if_neg Bool.false_ne_true] at q7
        obtain ⟨m', hm, w7⟩ := q7
        obtain ⟨J1, J2, J3, J4, J5⟩ := back I7
        rw [if_neg Bool.false_ne_true]
        exact ⟨m', hm, i + 1, σ6, ys, items, H7, J1, J2, J3, J4, rv3, J5, w7⟩
      | true =>
        rw [if_pos rfl] at q7
        rw [if_pos rfl]
        refine thn (he C fp pins s₂ H2 _ s7 σ6 H7 _ I7 q7) fun v s8 ⟨y, H8, I8, r8, m', hm, w8⟩ => ?_
        obtain ⟨J1, J2, J3, J4, J5⟩ := back I8
        have hit : items.size ≤ sizeLine := by
          have e : ys.length = items.size := by simpa using rv3.length
          omega
        refine wpAny_list_append_plain (hsz := hit) J4 fun h9 hl9 hs9 => ?_
        have nc : ∀ y c, cl.lookup y = some c → c ≠ D := fun y c e z => by
          obtain ⟨v, o, ho, _⟩ := I2.cell y c (cap.sub y c e)
          rw [z, newD] at ho; cases ho
        have np : ∀ p ∈ (X.pn ++ pins) ++ [], p.1 ≠ D := fun p hp z => by
          rw [List.append_nil] at hp
          have e := (I2.pin p hp).1
          rw [z, newD] at e; cases e
        have J9 : Inv (cxC X scope cl N' C fp pins s₂ H2) [] σ6 H8 { s8 with heap := h9 } := J1.turned (it := D) (t' := s8.toks) (fun b o hb e => hs9.extBut b o hb e) J5 hDC (.inr (Nat.le_of_eq hDD)) nc np
        refine ⟨m', hm, i + 1, σ6, ys ++ [y], items.push v, H8, J9, T.keep _ _ _ J2 fun b hb o e => hs9.extBut b o (fpD b hb) e, J3, hl9, ?_, J5, w8⟩
        rw [Array.toList_push]
        exact rv3.append (.cons r8 .nil)
  have I0 : Inv (cxC X scope cl N' C fp pins s₂ H2) [] (capSt caps σ) H2 { s₂ with heap := h₁, toks := s₂.toks + ([] : List (Str × Value)).length } :=
    inv_comp I2 f2 (fun b hb => hDD ▸ hfp b hb) hkind cap (by rw [hDD]; exact hCle) rfl I2.bare old hns₁ hN hcap
  have st0 : tn 0 h₁ := T.keep _ _ _ st2 fun b _ o e => old b o e
  have loop : ∀ s₃ : Shared, s₃ = { s₂ with heap := h₁, toks := s₂.toks + ([] : List (Str × Value)).length } →
      codeAny (model X.prog X.w) X.A (.compLoop (.ListComp elt [⟨tg, iter, ifs, 0⟩] scope pos) 0 (.ref it) (.ref D) (compEnvC scope cl C X.env)) (compPost (model X.prog X.w) X.A X.xe use QQ (.ref D) C) s₃ := by
    rintro s₃ rfl
    exact compLoop_own _ ht' m0 ⟨0, _, [], #[], H2, I0, st0, fun b hb => (f2 b hb).1, hacc, .nil, nD2, w0⟩
  exact codeAny_compStart_list (loop _ rfl) (T.self X.A 0 _ _ _ st0 (loop _ rfl))
theorem pe_comp {X : Cx} {tg elt iter : Expr} {ifs : List Expr} {scope : Scope} {pos : Pos} {wi : TI} {g : TG} {tt : TT} {te : TE} {cl : List (Str × Addr)} (N' : List Str) (caps : List (Option Nat)) (hc : X.calm = true) (hi : PI X tg iter wi)
    (hg : ∀ C fp pins s2 H2, PG (cxC X scope cl N' C fp pins s2 H2) tg g) (ht : ∀ C fp pins s2 H2, PIfs (cxC X scope cl N' C fp pins s2 H2) ifs tt) (he : ∀ C fp pins s2 H2, PE (cxC X scope cl N' C fp pins s2 H2) elt te)
    (cap : CapOk X scope cl) (hcell : ∀ y ∈ scope.names, y.2 ≠ .cell) (hkind : scope.kind = .function) (hnames : ∀ y ∈ scope.names, y.2 = .local → scope.names.lookup y.1 = some .local) (hN : caps.length = N'.length)
    (hcap : ∀ (i j : Nat), caps[i]? = some (some j) → ∃ y : Str, N'[i]? = some y ∧ X.N[j]? = some y ∧ (relabel scope X.env).names.lookup y = some .cell ∧ X.env.scope.names.lookup y = some .cell)
    (hs : ∀ x, foldedSetIterable iter X.env x = pure x := by intro _; rfl) :
    PE X (.ListComp elt [⟨tg, iter, ifs, 0⟩] scope pos) (tComp wi g tt te caps) := by
  intro pins s σ H Q I h
  rw [eval_ListComp]
  refine comp_run (use := none) N' caps hc hi hg ht he cap hcell hkind hnames hN hcap hs (fun C D fp s2 s4 H2 H4 pl σ' items ys I2 f2 I4 hpl nD newD hDC rv hz qn => ?_) I h
  obtain ⟨m, hn, _⟩ := I4.loc
  exact ⟨m, hn, fun h' sb => ⟨.ref D, _, comp_end I2 f2 I4 hpl nD newD hDC rv hz sb, rfl, qn D nD⟩⟩
def tSetC (i : Nat) (t : TE) : TS := fun D σ H => t σ H fun v H1 => D.nx (σ.set i (some v)) H1
theorem ps_comp {X : Cx} {tg elt iter : Expr} {ifs : List Expr} {scope : Scope} {pos spos py : Pos} {wi : TI} {g : TG} {tt : TT} {te : TE} {cl : List (Str × Addr)} {y : Str} {i : Nat} (hND : X.N.Nodup) (hiy : X.N[i]? = some y) (hy : Loc X.env.scope y) (N' : List Str) (caps : List (Option Nat)) (hc : X.calm = true) (hi : PI X tg iter wi)
    (hg : ∀ C fp pins s2 H2, PG (cxC X scope cl N' C fp pins s2 H2) tg g) (ht : ∀ C fp pins s2 H2, PIfs (cxC X scope cl N' C fp pins s2 H2) ifs tt) (he : ∀ C fp pins s2 H2, PE (cxC X scope cl N' C fp pins s2 H2) elt te)
    (cap : CapOk X scope cl) (hcell : ∀ y ∈ scope.names, y.2 ≠ .cell) (hkind : scope.kind = .function) (hnames : ∀ y ∈ scope.names, y.2 = .local → scope.names.lookup y.1 = some .local) (hN : caps.length = N'.length)
    (hcap : ∀ (i j : Nat), caps[i]? = some (some j) → ∃ y : Str, N'[i]? = some y ∧ X.N[j]? = some y ∧ (relabel scope X.env).names.lookup y = some .cell ∧ X.env.scope.names.lookup y = some .cell)
    (hs : ∀ x, foldedSetIterable iter X.env x = pure x := by intro _; rfl) (hsw : swapsWith (.ListComp elt [⟨tg, iter, ifs, 0⟩] scope pos) (some (.Name y py)) spos.line X.env = pure true := by rfl)
    (hfn : X.fn y = true ∨ X.env.scope.names.lookup y = some .local := by first | exact .inl rfl | exact .inr rfl | assumption) :
    PS X (.Assign [.Name y py] (.ListComp elt [⟨tg, iter, ifs, 0⟩] scope pos) spos) (tSetC i (tComp wi g tt te caps)) := by
  intro pins s σ H D I h
  rw [exec_Assign_Name_used _ _ _ _ hsw]
  refine wpAny_bind (wpAny_standAt (wpAny_bind ?_))
  show wpAny _ X.A (do let _ ← comprehension (.ListComp elt [⟨tg, iter, ifs, 0⟩] scope pos) scope X.env _ (newList []) false (eval iter X.env) (some (assign (.Name y py) X.env))) _ _ s
  refine wpAny_bind (wpAny_mono (comp_run (use := some (assign (.Name y py) X.env)) (QQ := fun _ s' => SP X pins D .next s') N' caps hc hi hg ht he cap hcell hkind hnames hN hcap hs
    (fun C Dl fp s2 s4 H2 H4 pl σ' items ys I2 f2 I4 hpl nD newD hDC rv hz qn => ?_) I h) (fun _ s' hq => wpAny_pure (wpAny_pure hq)) fun _ _ e => e)
  have hC : s2.heap.objs.size ≤ C := I4.ok.above
  obtain ⟨m, hn, _⟩ := I4.loc
  obtain ⟨oC, es, ep, hoC, hdC, hrest⟩ := id hn
  have J : Inv X pins σ (upd H4 Dl (.lst ys)) s4 := comp_end I2 f2 I4 hpl nD newD hDC rv hz (Heap.SameBut.refl ..)
  have nC : upd H4 Dl (.lst ys) C = none := by rw [upd_ne (Ne.symm hDC)]; exact I4.free
  have c1 : C ≠ X.env.locals := Nat.ne_of_gt (Nat.lt_of_lt_of_le I2.lt hC)
  have c2 : C ∉ X.fs := I2.nofs hC
  have J1 : Inv X (pins ++ [(C, oC)]) σ (upd H4 Dl (.lst ys)) s4 := J.pins_of fun p hp => by
    rcases List.mem_append.mp hp with hp | hp
    · exact J.pin p (List.mem_append_right _ hp)
    · have e : p = (C, oC) := by simpa using hp
      subst e
      exact ⟨hoC, nC, c1, c2, fun v z => by rw [hdC] at z; cases z⟩
  show wpAny _ X.A (assign (.Name y py) X.env (.ref Dl)) _ _ s4
  refine wpAny_assign_Name (store_ok J1 hND hiy hy (show RelV (.ref Dl) (Value.ref Dl) from rfl) (fun s5 J5 => ?_) hfn)
  obtain ⟨e5, _⟩ := J5.pin (C, oC) (List.mem_append_right _ (List.mem_append_right _ (List.mem_singleton.mpr rfl)))
  refine ⟨m, ⟨oC, es, ep, e5, hdC, hrest⟩, fun h' sb => ?_⟩
  have J6 : Inv X pins (σ.set i (some (.ref Dl))) (upd H4 Dl (.lst ys)) s5 := J5.unpinned
  refine ⟨_, _, J6.turned (it := C) (t' := s5.toks) (fun b o hb e => sb.extBut b o hb e) nC c1 (.inr (Nat.le_trans I2.sz hC)) (fun x c e z => ?_) (fun p hp z => ?_), qn Dl nD⟩
  · obtain ⟨v, o, ho, _⟩ := I2.cell x c e
    exact absurd (Heap.lt_size ho) (by rw [z]; exact Nat.not_lt.mpr hC)
  · have e := (I2.pin p hp).1
    exact absurd (Heap.lt_size e) (by rw [z]; exact Nat.not_lt.mpr hC)
end L2
namespace L2
open PySem PySem.Spec PyProof.Rows
theorem SqT.keep {K : PySem.W.Frag} {H H' : Hp} {a : Addr} {xs : List V} (s : Same H H') (h : SqT K H a xs) : SqT K H' a xs := by
  rcases h with (h | ⟨o, h⟩) | h
  · exact .inl (.inl (s _ _ h))
  · exact .inl (.inr ⟨o, s _ _ h⟩)
  · exact .inr h
theorem SqL.keep {K : PySem.W.Frag} {H H' : Hp} {a : Addr} {xs : List V} (s : Same H H') (h : SqL K H a xs) : SqL K H' a xs := s.seq h
mutual
theorem DV.keep {K : PySem.W.Frag} {H H' : Hp} (s : Same H H') : ∀ {v : V} {d : PyData}, DV K H v d → DV K H' v d
  | _, _, .non => .non
  | _, _, .bl b => .bl b
  | _, _, .int i => .int i
  | _, _, .str x => .str x
  | _, _, .lst h q => .lst (h.keep s) (DVs.keep s q)
  | _, _, .tup h q => .tup (h.keep s) (DVs.keep s q)
  | _, _, .dct h => .dct (s _ _ h)
theorem DVs.keep {K : PySem.W.Frag} {H H' : Hp} (s : Same H H') : ∀ {vs : List V} {ds : List PyData}, DVs K H vs ds → DVs K H' vs ds
  | _, _, .nil => .nil
  | _, _, .cons h q => .cons (DV.keep s h) (DVs.keep s q)
end
section
variable {K : PySem.W.Frag} {H : Hp} {v : V} {vs : List V} {d d1 d2 d3 d4 : PyData} {ds : List PyData}
theorem DVs.len : ∀ {vs : List V} {ds : List PyData}, DVs K H vs ds → vs.length = ds.length
  | _, _, .nil => rfl
  | _, _, .cons _ q => by rw [List.length_cons, List.length_cons, DVs.len q]
theorem DVs.cons_of (h : DVs K H vs (d :: ds)) : ∃ x xs, vs = x :: xs ∧ DV K H x d ∧ DVs K H xs ds := by
  cases h with
  | cons h q => exact ⟨_, _, rfl, h, q⟩
theorem DV.tup_of (h : DV K H v (.tuple ds)) : ∃ a xs, v = .ref a ∧ SqT K H a xs ∧ DVs K H xs ds := by
  cases h with
  | tup h q => exact ⟨_, _, rfl, h, q⟩
theorem DV.lst_of (h : DV K H v (.list ds)) : ∃ a xs, v = .ref a ∧ SqL K H a xs ∧ DVs K H xs ds := by
  cases h with
  | lst h q => exact ⟨_, _, rfl, h, q⟩
theorem DVs.one (h : DVs K H vs [d1]) : ∃ x, vs = [x] ∧ DV K H x d1 := by
  cases h with
  | cons h q => cases q; exact ⟨_, rfl, h⟩
theorem DVs.two (h : DVs K H vs [d1, d2]) : ∃ x y, vs = [x, y] ∧ DV K H x d1 ∧ DV K H y d2 := by
  cases h with
  | cons h q =>
    obtain ⟨y, rfl, hy⟩ := q.one
    exact ⟨_, _, rfl, h, hy⟩
theorem DVs.three (h : DVs K H vs [d1, d2, d3]) : ∃ x y z, vs = [x, y, z] ∧ DV K H x d1 ∧ DV K H y d2 ∧ DV K H z d3 := by
  cases h with
  | cons h q =>
    obtain ⟨y, z, rfl, hy, hz⟩ := q.two
    exact ⟨_, _, _, rfl, h, hy, hz⟩
theorem DV.t2 (h : DV K H v (.tuple [d1, d2])) : ∃ a x y, v = .ref a ∧ SqT K H a [x, y] ∧ DV K H x d1 ∧ DV K H y d2 := by
  obtain ⟨a, xs, rfl, ha, q⟩ := h.tup_of
  obtain ⟨x, y, rfl, hx, hy⟩ := q.two
  exact ⟨a, x, y, rfl, ha, hx, hy⟩
theorem DV.t3 (h : DV K H v (.tuple [d1, d2, d3])) : ∃ a x y z, v = .ref a ∧ SqT K H a [x, y, z] ∧ DV K H x d1 ∧ DV K H y d2 ∧ DV K H z d3 := by
  obtain ⟨a, xs, rfl, ha, q⟩ := h.tup_of
  obtain ⟨x, y, z, rfl, hx, hy, hz⟩ := q.three
  exact ⟨a, x, y, z, rfl, ha, hx, hy, hz⟩
theorem DV.int_of {i : Int} (h : DV K H v (.int i)) : v = .int i := by cases h; rfl
theorem DV.str_of {x : Str} (h : DV K H v (.str x)) : v = .str x := by cases h; rfl
theorem DV.bl_of {b : Bool} (h : DV K H v (.bool b)) : v = .bl b := by cases h; rfl
theorem DVs.get : ∀ {vs : List V} {ds : List PyData} {i : Nat} {v : V}, DVs K H vs ds → vs[i]? = some v → ∃ d, ds[i]? = some d ∧ DV K H v d
  | _, _, _, _, .nil, e => by simp at e
  | _, _, 0, _, .cons h _, e => by simp at e; subst e; exact ⟨_, rfl, h⟩
  | _, _, i + 1, v, .cons _ q, e => by
    obtain ⟨d, h1, h2⟩ := DVs.get (i := i) (v := v) q (by simpa using e)
    exact ⟨d, by simpa using h1, h2⟩
theorem DVs.append : ∀ {vs ws : List V} {ds es : List PyData}, DVs K H vs ds → DVs K H ws es → DVs K H (vs ++ ws) (ds ++ es)
  | _, _, _, _, .nil, q => q
  | _, _, _, _, .cons h t, q => .cons h (DVs.append t q)
end
def tyD : PyData → String
  | .none => "NoneType"
  | .bool _ => "bool"
  | .int _ => "int"
  | .str _ => "str"
  | .list _ => "list"
  | .tuple _ => "tuple"
  | .dict _ => "dict"
section
variable {X : Cx}
theorem call_isiD : CallR X (.builtin "isinstance") (fun xs H Q => ∃ x d c b, xs = [x, .ty c] ∧ DV X.K H x d ∧ bsub (tyD d) c = some b ∧ Q (.bl b) H) := by
  intro pins s σ H xs us Q I r h
  obtain ⟨x, d, c, b, rfl, hd, e, q⟩ := h
  obtain ⟨u, v, rfl, ru, rv⟩ := vals2 r
  cases (show v = Value.type c from rv)
  have e' := kit_b (K := X.K) e
  have fin : ∀ tk, EP X pins σ Q (.bool b) { s with toks := tk } := fun tk => ⟨.bl b, H, I.tok _, rfl, q⟩
  cases hd with
  | non => exact isinst_ok I ru .non e' fin
  | bl b => exact isinst_ok I ru (.bl b) e' fin
  | int i => exact isinst_ok I ru (.int i) e' fin
  | str x => exact isinst_ok I ru (.str x) e' fin
  | lst h _ =>
    cases ru
    obtain ⟨its, rv, ⟨o, n, e1, e2, _⟩, _⟩ := I.list h
    exact PySem.W.kia_one PySem.W.kitx_list I.kIn ⟨o, e1, e2⟩ e' (fun z => nomatch z) fin
  | tup h _ =>
    cases ru
    obtain ⟨its, rv, ⟨o, e1, e2, _⟩, _⟩ := I.tuple h
    exact PySem.W.kia_one PySem.W.kitx_tuple I.kIn ⟨o, e1, e2⟩ e' (fun z => nomatch z) fin
  | dct h => exact isinst_ok I ru (.dK h) e' fin
end
def Ite (K : PySem.W.Frag) (a : Addr) : It :=
  ⟨fun i H => ∃ xs x, SqL K H a xs ∧ xs[i]? = some x, fun i H x H' => ∃ p v, H p = none ∧ x = .ref p ∧ (∀ xs, SqL K H a xs → xs[i]? = some v) ∧ H' = upd H p (.tup [.int i, v]), fun i H => ∃ xs, SqL K H a xs ∧ xs.length ≤ i⟩
theorem turn_enum {P : Program} {w : World} {K : PySem.W.Frag} {elts : List Expr} {x1} {tpos : Pos} (a e it : Addr) (hne : e ≠ it) : Turn P w K (.Tuple elts x1 tpos) (Ite K a) [e, it] e (fun i h => (∃ old, IsEnum h e it (i : Int) old) ∧ h.IsListIter it a i) where
  mem := by simp
  obj := fun i h ⟨⟨old, st⟩, o', e', c', d'⟩ b hb => by
    rcases List.mem_cons.mp hb with z | z
    · subst z
      exact ⟨_, st, fun v q => by cases q⟩
    · have z : b = it := by simpa using z
      subst z
      exact ⟨o', e', fun v q => by rw [d'] at q; cases q⟩
  keep := fun i h h' ⟨⟨old, st⟩, st'⟩ k => ⟨⟨old, k e (by simp) _ st⟩, st'.at fun o q => k it (by simp) o q⟩
  item := by
    intro X hP hw hK hc i pins s σ H E I hf ⟨⟨old, st⟩, st'⟩ hg
    subst hP hw hK
    obtain ⟨xs, x, hq, hx⟩ := hg
    obtain ⟨its, rv, p, hz⟩ := I.list hq
    obtain ⟨u, hu, ru⟩ := rv.get hx
    obtain ⟨f0, f1, f2, f3, f4, f5⟩ := hf e (by simp)
    obtain ⟨g0, g1, g2, g3, g4, g5⟩ := hf it (by simp)
    refine wpAny_pyNext_enum_item st st' p.isList (x := u) (by simpa using hu) hne fun h1 heo hit1 ht1 hz1 hk1 => ?_
    refine ⟨_, rfl, ?_⟩
    refine wpAny_letOwnedTupleGo_enum heo fun h2 he2 hs2 => ?_
    have nep : ∀ b o, s.heap.get? b = some o → b ≠ s.heap.objs.size := fun b o q => Nat.ne_of_lt (Heap.lt_size q)
    have k2 : ∀ b o, b ≠ e → b ≠ it → s.heap.get? b = some o → h2.get? b = some o := fun b o h1' h2' q => hs2.extBut b o h1' (hk1 b o h1' h2' q)
    have nt : ∀ b o, H b = some o → b ≠ e ∧ b ≠ it := fun b o q => ⟨(fun z => by rw [z, f0] at q; cases q), fun z => by rw [z, g0] at q; cases q⟩
    have hp0 : H s.heap.objs.size = none := I.hok.fresh (Nat.le_refl _)
    have htp : h2.get? s.heap.objs.size = some { cls := .type "tuple", data := .seq #[.int i s.toks, u] } := hs2.extBut _ _ (Nat.ne_of_gt (Heap.lt_size st)) ht1
    have J : Inv X pins σ (upd H s.heap.objs.size (.tup [.int i, x])) { s with heap := h2, toks := s.toks + 1 } := by
      refine I.step (g' := s.gens) (d' := s.drawn) (ch := [e, it]) (fun b hb => ?_) (fun b o _ _ hc' q n => k2 b o (fun z => hc' (by simp [z])) (fun z => hc' (by simp [z])) q) (fun b o _ _ hc' q n => ⟨o.slots, k2 b o (fun z => hc' (by simp [z])) (fun z => hc' (by simp [z])) q⟩)
        (fun b o _ q n => by rw [upd_ne (nep b o q)]; exact n) (fun b o hc' q => ⟨o, k2 b o (fun z => hc' (by simp [z])) (fun z => hc' (by simp [z])) q⟩)
        (fun b ys q => by rw [upd_ne (ne_of_none q hp0)]; exact q) (fun b o y q => by rw [upd_ne (ne_of_none q hp0)]; exact q) (fun b ps q => ⟨#[], by rw [upd_ne (ne_of_none q hp0), q]; simp⟩) (fun m hm => ?_) (fun b o q => ?_) I.bare
      · rcases List.mem_cons.mp hb with z | z
        · subst z; exact ⟨f3, f1, f4, f5⟩
        · have z : b = it := by simpa using z
          subst z; exact ⟨g3, g1, g4, g5⟩
      · obtain ⟨o, es, ep, ho, r⟩ := hm
        exact ⟨o, es, ep, k2 _ o (Ne.symm f1) (Ne.symm g1) ho, r⟩
      · by_cases hb : b = s.heap.objs.size
        · subst hb
          rw [upd_same] at q
          cases q
          exact ⟨by show 2 ≤ sizeLine; decide, [.int i s.toks, u], .cons ⟨_, rfl⟩ (.cons ru .nil), _, htp, rfl, _, rfl⟩
        · rw [upd_ne hb] at q
          refine (I.hok b o q).stay (fun c v hc' z => k2 c v ?_ ?_ z) (fun c z => by rw [upd_ne (ne_of_none z hp0)]; exact z) fun c ys z => by rw [upd_ne (ne_of_none z hp0)]; exact z
          · rcases hc' with z | z
            · rw [z]; exact (nt b o q).1
            · exact (nt c _ z).1
          · rcases hc' with z | z
            · rw [z]; exact (nt b o q).2
            · exact (nt c _ z).2
    refine ⟨.ref s.heap.objs.size, _, J, rfl, ⟨s.heap.objs.size, x, hp0, rfl, (fun ys hy => by rw [I.list_inj hy hq]; exact hx), rfl⟩, ⟨⟨u, ?_⟩, ?_⟩, fun b hb => ?_⟩
    · have z : ((i + 1 : Nat) : Int) = (i : Int) + 1 := by push_cast; rfl
      rw [z]; exact he2
    · exact hit1.extBut hs2.extBut (Ne.symm hne)
    · rcases List.mem_cons.mp hb with z | z
      · subst z
        rw [upd_ne (nep _ _ st)]; exact f0
      · have z : b = it := by simpa using z
        subst z
        obtain ⟨o, q, _⟩ := st'
        rw [upd_ne (nep _ _ q)]; exact g0
  done := by
    intro X hP hw hK hc i pins s σ H E I hf ⟨⟨old, st⟩, st'⟩ hg
    subst hP hw hK
    obtain ⟨xs, hq, hx⟩ := hg
    obtain ⟨its, rv, p, hz⟩ := I.list hq
    obtain ⟨g0, g1, g2, g3, g4, g5⟩ := hf it (by simp)
    have hl := rv.length
    exact wpAny_pyNext_enum_end (I.ok.hd hc) st st' p.isList (by simp; omega) fun h' eb => ⟨rfl, I.turned (t' := s.toks) (fun b o hb e => eb b o hb e) g0 g1 g3 g4 g5⟩
  self := fun _ _ _ _ _ ⟨⟨old, st⟩, _⟩ h => wpAny_pyIter_enum st h
section
variable {X : Cx} {elts : List Expr} {x1 : Nat} {tpos : Pos}
def iEnum (K : PySem.W.Frag) (ta : TA) : TI := fun σ H R => ta σ H fun vs H1 => ∃ a, vs = [.ref a] ∧ (∃ xs, SqL K H1 a xs) ∧ R (Ite K a) H1
theorem pi_enum {a : Expr} {ta : TA} {p pos : Pos} (hg : Gl X "enumerate") (hm : X.mg "enumerate" = none) (ha : PA X [a] ta) (hs : starEach [a] X.env = [(false, eval a X.env)] := by rfl) : PI X (.Tuple elts x1 tpos) (.Call (.Name "enumerate" p) [a] [] pos) (iEnum X.K ta) := by
  intro pins s σ H R I h
  refine Call_ (ld_blt I hg hm boot_enumerate (PyProof.Rows.callWith_type1 (thn (ha pos pins s σ H _ I h) fun us s1 ⟨vs, H1, I1, r1, q1⟩ => ?_) hs rfl))
  obtain ⟨a, e, ⟨xs, hq⟩, q⟩ := q1
  subst e
  obtain ⟨u, rfl, r⟩ := vals1 r1
  cases r
  obtain ⟨its, rv, p, hz⟩ := I1.list hq
  refine call_enumerate_list p.isList fun h' he hi hsz hk => ?_
  have I2 : Inv X pins σ H1 { s1 with heap := h' } := I1.kept (t' := s1.toks) hk
  refine wpAny_pyIter_enum he ⟨s1.heap.objs.size + 1, [s1.heap.objs.size + 1, s1.heap.objs.size], _, _, H1, rfl, I2, turn_enum a _ _ (Nat.succ_ne_self _), ⟨⟨_, he⟩, hi⟩, fun b hb => ?_, q⟩
  rcases List.mem_cons.mp hb with z | z
  · subst z
    exact I1.fpOk (Nat.le_succ _) (I1.hok.fresh (Nat.le_succ _))
  · have z : b = s1.heap.objs.size := by simpa using z
    subst z
    exact I1.fpOk (Nat.le_refl _) (I1.hok.fresh (Nat.le_refl _))
end
theorem for_enum {K : PySem.W.Frag} {a : Addr} {xs : List V} {g : TG} {tb : TS} {D : Ends} {σ : St} {H : Hp} (Pv : Nat → St → Hp → Prop) (h0 : Pv 0 σ H) (hl : ∀ i σ H, i ≤ xs.length → Pv i σ H → SqL K H a xs)
    (hs : ∀ i x σ H p, xs[i]? = some x → Pv i σ H → H p = none → g (.ref p) σ (upd H p (.tup [.int i, x])) fun σ2 H2 => tb { D with nx := Pv (i + 1), ct := Pv (i + 1), bk := D.nx } σ2 H2) (hd : ∀ σ H, Pv xs.length σ H → D.nx σ H) :
    ∃ W : Nat → Nat → St → Hp → Prop, (∃ m, W 0 m σ H) ∧ ∀ i m σ H, W i m σ H →
      ((Ite K a).stop i H ∧ D.nx σ H) ∨ ((Ite K a).go i H ∧ ∃ N : St → Hp → Prop, (∀ σ' H', N σ' H' → ∃ m', m' < m ∧ W (i + 1) m' σ' H') ∧ ∀ x H', (Ite K a).yld i H x H' → g x σ H' fun σ2 H2 => tb { D with nx := N, ct := N, bk := D.nx } σ2 H2) := by
  refine ⟨fun i m σ H => m = xs.length - i ∧ i ≤ xs.length ∧ Pv i σ H, ⟨xs.length, by simp, Nat.zero_le _, h0⟩, ?_⟩
  rintro i m σ H ⟨rfl, hi, p⟩
  have q := hl i σ H hi p
  by_cases hlt : i < xs.length
  · refine .inr ⟨⟨xs, xs[i], q, by simp [hlt]⟩, Pv (i + 1), fun σ' H' p' => ⟨xs.length - (i + 1), by omega, rfl, hlt, p'⟩, fun x H' y => ?_⟩
    obtain ⟨r, v, n, rfl, y, rfl⟩ := y
    exact hs i v σ H r (y xs q) p n
  · have e : i = xs.length := by omega
    subst e
    exact .inl ⟨⟨xs, q, Nat.le_refl _⟩, hd σ H p⟩
def Nx (n : Nat) (Pv : Nat → St → List V → Hp → Prop) (i : Nat) (σ : St) (ys : List V) (H : Hp) : Prop := ∃ m', m' < n - i ∧ (m' = n - (i + 1) ∧ i + 1 ≤ n ∧ Pv (i + 1) σ ys H)
theorem nx {n : Nat} {Pv : Nat → St → List V → Hp → Prop} {i : Nat} {σ : St} {ys : List V} {H : Hp} (hi : i < n) (h : Pv (i + 1) σ ys H) : Nx n Pv i σ ys H := ⟨n - (i + 1), by omega, rfl, hi, h⟩
theorem lt_of_get {α : Type} {xs : List α} {i : Nat} {x : α} (h : xs[i]? = some x) : i < xs.length := (List.getElem?_eq_some_iff.mp h).1
theorem comp_list {K : PySem.W.Frag} {a : Addr} {xs : List V} {g : TG} {tt : TT} {te : TE} {Q : VK} {σ : St} {H : Hp} (Pv : Nat → St → List V → Hp → Prop) (h0 : Pv 0 σ [] H) (hz : ∀ i σ ys H, i ≤ xs.length → Pv i σ ys H → ys.length ≤ sizeLine ∧ SqL K H a xs)
    (hs : ∀ i x σ ys H, xs[i]? = some x → Pv i σ ys H → g x σ H fun σ2 H2 => tt σ2 H2 fun b H3 => if b = true then te σ2 H3 fun y H4 => Nx xs.length Pv i σ2 (ys ++ [y]) H4 else Nx xs.length Pv i σ2 ys H3)
    (hd : ∀ σ ys H p, Pv xs.length σ ys H → H p = none → Q (.ref p) (upd H p (.lst ys))) :
    tCompB g tt te (Itl K a) σ H Q := by
  refine ⟨fun i m σ ys H => m = xs.length - i ∧ i ≤ xs.length ∧ Pv i σ ys H, ⟨xs.length, by simp, Nat.zero_le _, h0⟩, ?_⟩
  rintro i m σ' ys H ⟨rfl, hi, p⟩
  obtain ⟨z, q⟩ := hz i σ' ys H hi p
  refine ⟨z, ?_⟩
  by_cases hlt : i < xs.length
  · refine .inr ⟨⟨xs, xs[i], q, by simp [hlt]⟩, fun x H' y => ?_⟩
    obtain ⟨rfl, y⟩ := y
    exact hs i x σ' ys _ (y xs q) p
  · have e : i = xs.length := by omega
    subst e
    exact .inl ⟨⟨xs, q, Nat.le_refl _⟩, fun r n => hd σ' ys _ r p n⟩
theorem comp_tup {K : PySem.W.Frag} {a : Addr} {xs : List V} {g : TG} {tt : TT} {te : TE} {Q : VK} {σ : St} {H : Hp} (Pv : Nat → St → List V → Hp → Prop) (h0 : Pv 0 σ [] H) (hz : ∀ i σ ys H, i ≤ xs.length → Pv i σ ys H → ys.length ≤ sizeLine ∧ SqT K H a xs)
    (hs : ∀ i x σ ys H, xs[i]? = some x → Pv i σ ys H → g x σ H fun σ2 H2 => tt σ2 H2 fun b H3 => if b = true then te σ2 H3 fun y H4 => Nx xs.length Pv i σ2 (ys ++ [y]) H4 else Nx xs.length Pv i σ2 ys H3)
    (hd : ∀ σ ys H p, Pv xs.length σ ys H → H p = none → Q (.ref p) (upd H p (.lst ys))) :
    tCompB g tt te (Itt K a) σ H Q := by
  refine ⟨fun i m σ ys H => m = xs.length - i ∧ i ≤ xs.length ∧ Pv i σ ys H, ⟨xs.length, by simp, Nat.zero_le _, h0⟩, ?_⟩
  rintro i m σ' ys H ⟨rfl, hi, p⟩
  obtain ⟨z, q⟩ := hz i σ' ys H hi p
  refine ⟨z, ?_⟩
  by_cases hlt : i < xs.length
  · refine .inr ⟨⟨xs, xs[i], q, by simp [hlt]⟩, fun x H' y => ?_⟩
    obtain ⟨rfl, y⟩ := y
    exact hs i x σ' ys _ (y xs q) p
  · have e : i = xs.length := by omega
    subst e
    exact .inl ⟨⟨xs, q, Nat.le_refl _⟩, fun r n => hd σ' ys _ r p n⟩
theorem comp_range {lo : Int} {n : Nat} {g : TG} {tt : TT} {te : TE} {Q : VK} {σ : St} {H : Hp} (Pv : Nat → St → List V → Hp → Prop) (h0 : Pv 0 σ [] H) (hz : ∀ i σ ys H, i ≤ n → Pv i σ ys H → ys.length ≤ sizeLine)
    (hs : ∀ i σ ys H, i < n → Pv i σ ys H → g (.int (lo + i)) σ H fun σ2 H2 => tt σ2 H2 fun b H3 => if b = true then te σ2 H3 fun y H4 => Nx n Pv i σ2 (ys ++ [y]) H4 else Nx n Pv i σ2 ys H3)
    (hd : ∀ σ ys H p, Pv n σ ys H → H p = none → Q (.ref p) (upd H p (.lst ys))) :
    tCompB g tt te (Itr lo n) σ H Q := by
  refine ⟨fun i m σ ys H => m = n - i ∧ i ≤ n ∧ Pv i σ ys H, ⟨n, by simp, Nat.zero_le _, h0⟩, ?_⟩
  rintro i m σ' ys H ⟨rfl, hi, p⟩
  refine ⟨hz i σ' ys H hi p, ?_⟩
  by_cases hlt : i < n
  · refine .inr ⟨hlt, fun x H' y => ?_⟩
    obtain ⟨rfl, rfl⟩ := y
    exact hs i σ' ys _ hlt p
  · have e : i = n := by omega
    subst e
    exact .inl ⟨Nat.le_refl _, fun r n => hd σ' ys _ r p n⟩
theorem comp_list0 {K : PySem.W.Frag} {a : Addr} {xs : List V} {g : TG} {te : TE} {Q : VK} {σ : St} {H : Hp} (Pv : Nat → St → List V → Hp → Prop) (h0 : Pv 0 σ [] H) (hz : ∀ i σ ys H, i ≤ xs.length → Pv i σ ys H → ys.length ≤ sizeLine ∧ SqL K H a xs)
    (hs : ∀ i x σ ys H, xs[i]? = some x → Pv i σ ys H → g x σ H fun σ2 H2 => te σ2 H2 fun y H4 => Nx xs.length Pv i σ2 (ys ++ [y]) H4)
    (hd : ∀ σ ys H p, Pv xs.length σ ys H → H p = none → Q (.ref p) (upd H p (.lst ys))) : tCompB g tYes te (Itl K a) σ H Q :=
  comp_list Pv h0 hz (fun i x σ ys H hx hp => by
    have := hs i x σ ys H hx hp
    simpa only [tYes, if_true] using this) hd
theorem comp_tup0 {K : PySem.W.Frag} {a : Addr} {xs : List V} {g : TG} {te : TE} {Q : VK} {σ : St} {H : Hp} (Pv : Nat → St → List V → Hp → Prop) (h0 : Pv 0 σ [] H) (hz : ∀ i σ ys H, i ≤ xs.length → Pv i σ ys H → ys.length ≤ sizeLine ∧ SqT K H a xs)
    (hs : ∀ i x σ ys H, xs[i]? = some x → Pv i σ ys H → g x σ H fun σ2 H2 => te σ2 H2 fun y H4 => Nx xs.length Pv i σ2 (ys ++ [y]) H4)
    (hd : ∀ σ ys H p, Pv xs.length σ ys H → H p = none → Q (.ref p) (upd H p (.lst ys))) : tCompB g tYes te (Itt K a) σ H Q :=
  comp_tup Pv h0 hz (fun i x σ ys H hx hp => by
    have := hs i x σ ys H hx hp
    simpa only [tYes, if_true] using this) hd
theorem comp_range0 {lo : Int} {n : Nat} {g : TG} {te : TE} {Q : VK} {σ : St} {H : Hp} (Pv : Nat → St → List V → Hp → Prop) (h0 : Pv 0 σ [] H) (hz : ∀ i σ ys H, i ≤ n → Pv i σ ys H → ys.length ≤ sizeLine)
    (hs : ∀ i σ ys H, i < n → Pv i σ ys H → g (.int (lo + i)) σ H fun σ2 H2 => te σ2 H2 fun y H4 => Nx n Pv i σ2 (ys ++ [y]) H4)
    (hd : ∀ σ ys H p, Pv n σ ys H → H p = none → Q (.ref p) (upd H p (.lst ys))) : tCompB g tYes te (Itr lo n) σ H Q :=
  comp_range Pv h0 hz (fun i σ ys H hx hp => by
    have := hs i σ ys H hx hp
    simpa only [tYes, if_true] using this) hd
theorem nocap {caps : List (Option Nat)} {P : Nat → Nat → Prop} (h : caps.all (·.isNone) = true) : ∀ i j, caps[i]? = some (some j) → P i j := fun i j e => by
  have := List.all_eq_true.mp h _ (List.mem_of_getElem? e)
  cases this
end L2
namespace L2
open PySem PySem.Spec PyProof.Rows
theorem RoomB.room {k : Nat} {A : Around} (r : RoomB true k A) : Room k A := ⟨r.hd rfl, r.dp, r.un⟩
structure MC (P : Program) (w : World) (K : PySem.W.Frag) (mg : Str → Option Value) (base : Heap) (k : Nat) (C : Addr) (m : Str) (ps : List Str) (sp : Sp) : Prop where
  ex : ∃ (f : Addr) (fd : FuncData), FnB P w K mg base true k f fd ps sp ∧ Meth K C m f ∧ Binds K fd ps []
  cl : Cls K C
structure MtFn (K : PySem.W.Frag) (C : Addr) (m qual : Str) (st : Stmt) : Prop where
  ex : ∃ (f : Addr) (fd : FuncData), Fun K m qual st f fd ∧ Meth K C m f
  cl : Cls K C
theorem MtFn.mc {P : Program} {w : World} {K : PySem.W.Frag} {mg : Str → Option Value} {base : Heap} {C : Addr} {m qual : Str} {st : Stmt} {N ps : List Str} {k : Nat} {sp : Sp} (T : MtFn K C m qual st) (S : FnScope N ps (defScope st))
    (hb : ∀ (kV doc pm : Value) (an : Option Addr) (cdv ct : Value) (us : List Value), us.length = ps.length → bindArgs (PySem.W.fnOf m qual (defArgs st) (defBody st) (defScope st) .none kV doc pm an cdv ct) ⟨us, []⟩ = pure (ps.zip us))
    (len : ∀ vs H Q E, sp vs H Q E → vs.length = ps.length)
    (hbody : ∀ (f : Addr) (cdv : Value) (A : Around) (outer : List Env) (s : Shared) (H : Hp) (vs : List V) (Q : VK) (E : XK), RoomB true k (A.deeper (envOfC qual (defScope st) s.heap.objs.size f cdv)) → sp vs H Q E →
      ∃ t, PSs (cxB true P w K mg base N qual (defScope st) f cdv A outer s H E).nox (defBody st) t ∧ t { nx := fun _ H' => Q .non H', rt := Q } (start N vs) H) : MC P w K mg base (k + 1) C m ps sp := by
  obtain ⟨f, fd, F, hm⟩ := T.ex
  obtain ⟨oc, od, kV, doc, pm, an, cdv, ct, osl, rfl, l, cd⟩ := id F.ex
  refine ⟨⟨f, _, fnB_of l cd S len fun A outer s H vs Q E hr h => ?_, hm, F.binds hb⟩, T.cl⟩
  obtain ⟨t, h1, h2⟩ := hbody f cdv A outer s H vs Q E hr h
  exact ⟨t, h1.nox, h2⟩
structure MkC (P : Program) (w : World) (K : PySem.W.Frag) (mg : Str → Option Value) (base : Heap) (k : Nat) (x : Str) (C : Addr) (ps : List Str) (sp : Sp) : Prop where
  ex : ∃ (f : Addr) (fd : FuncData), FnB P w K mg base true k f fd ps sp ∧ Mk K C f ∧ Binds K fd ps []
  mg : mg x = some (.ref C)
structure MkFn (K : PySem.W.Frag) (mg : Str → Option Value) (x : Str) (C : Addr) (qual : Str) (st : Stmt) : Prop where
  ex : ∃ (f : Addr) (fd : FuncData), Fun K "__init__" qual st f fd ∧ Mk K C f
  mg : mg x = some (.ref C)
theorem MkFn.mkc {P : Program} {w : World} {K : PySem.W.Frag} {mg : Str → Option Value} {base : Heap} {x : Str} {C : Addr} {qual : Str} {st : Stmt} {N ps : List Str} {k : Nat} {sp : Sp} (T : MkFn K mg x C qual st) (S : FnScope N ps (defScope st))
    (hb : ∀ (kV doc pm : Value) (an : Option Addr) (cdv ct : Value) (us : List Value), us.length = ps.length → bindArgs (PySem.W.fnOf "__init__" qual (defArgs st) (defBody st) (defScope st) .none kV doc pm an cdv ct) ⟨us, []⟩ = pure (ps.zip us))
    (len : ∀ vs H Q E, sp vs H Q E → vs.length = ps.length)
    (hbody : ∀ (f : Addr) (cdv : Value) (A : Around) (outer : List Env) (s : Shared) (H : Hp) (vs : List V) (Q : VK) (E : XK), RoomB true k (A.deeper (envOfC qual (defScope st) s.heap.objs.size f cdv)) → sp vs H Q E →
      ∃ t, PSs (cxB true P w K mg base N qual (defScope st) f cdv A outer s H E).nox (defBody st) t ∧ t { nx := fun _ H' => Q .non H', rt := Q } (start N vs) H) : MkC P w K mg base (k + 1) x C ps sp := by
  obtain ⟨f, fd, F, hm⟩ := T.ex
  obtain ⟨oc, od, kV, doc, pm, an, cdv, ct, osl, rfl, l, cd⟩ := id F.ex
  refine ⟨⟨f, _, fnB_of l cd S len fun A outer s H vs Q E hr h => ?_, hm, F.binds hb⟩, T.mg⟩
  obtain ⟨t, h1, h2⟩ := hbody f cdv A outer s H vs Q E hr h
  exact ⟨t, h1.nox, h2⟩
section
variable {X : Cx} {k : Nat} {C : Addr} {ps : List Str} {sp : Sp} {x m : Str} {p pos apos : Pos} {e o : Expr} {es : List Expr} {ta : TE} {t : TA}
def tMB (P : Program) (w : World) (K : PySem.W.Frag) (mg : Str → Option Value) (base : Heap) (k : Nat) (m : Str) (ta : TE) (t : TA) : TE := fun σ H Q => ta σ H fun x H1 => ∃ a C dx fs ps sp, x = .ref a ∧ H1 a = some (.ins C dx fs) ∧ fs.lookup m = none ∧
  MC P w K mg base k C m ps sp ∧ t σ H1 fun vs H2 => sp (x :: vs) H2 Q E0
theorem pe_mB {pl : Sem Bool} (he : PE X o ta) (hr : RoomB true k X.A) (ha : PA X (e :: es) t)
    (hst : starEach (e :: es) X.env = (false, eval e X.env) :: starEach es X.env := by rfl) (hpl : (backTo pos (starEach es X.env)).any (·.1) = false := by rfl)
    (ht : eval (.Call (.Attribute o m apos) (e :: es) [] pos) X.env = (do
      let ov ← eval o X.env
      standAt apos.atName
      let (f, first) ← holding [ov] (getMethod ov m pl)
      callWith pos f first (backTo pos (starEach (e :: es) X.env)) (backToKw pos (keywordEach [] X.env))) := by rfl) :
    PE X (.Call (.Attribute o m apos) (e :: es) [] pos) (tMB X.prog X.w X.K X.mg X.base k m ta t) := by
  intro pins s σ H Q I h
  refine PySem.W.methodCall_KW (pl := pl) (thn (he pins s σ H _ I h) fun u s1 ⟨x, H1, I1, rx, a, C, dx, fs, ps, sp, ex, ea, l, M, q⟩ => ?_) ht
  subst ex
  obtain rfl : u = Value.ref a := rx
  obtain ⟨f, fd, F, hm, hb⟩ := M.ex
  refine getmeth_ok I1 ea M.cl hm l ?_
  refine PySem.W.callWith_K (first := [.ref a]) (h₀ := X.base) I.ok.mod.kin hm.kp (thn (ha pos pins s1 σ H1 _ I1 q) fun us s2 ⟨vs, H2, I2, r, q2⟩ => ⟨I2.kIn, ?_⟩) hst hpl
  exact run_fn (us := .ref a :: us) (vs := .ref a :: vs) (dvs := []) (ds := []) (E := E0) F.ok hr.room hb .nil pass01 I2 (.cons rfl r) (by rw [List.append_nil]; exact q2)
theorem pe_mB0 {pl : Sem Bool} (he : PE X o ta) (hr : RoomB true k X.A)
    (ht : eval (.Call (.Attribute o m apos) [] [] pos) X.env = (do
      let ov ← eval o X.env
      standAt apos.atName
      let (f, first) ← holding [ov] (getMethod ov m pl)
      callWith pos f first (backTo pos (starEach [] X.env)) (backToKw pos (keywordEach [] X.env))) := by rfl) :
    PE X (.Call (.Attribute o m apos) [] [] pos) (tMB X.prog X.w X.K X.mg X.base k m ta tNil) := by
  intro pins s σ H Q I h
  refine PySem.W.methodCall_KW (pl := pl) (thn (he pins s σ H _ I h) fun u s1 ⟨x, H1, I1, rx, a, C, dx, fs, ps, sp, ex, ea, l, M, q⟩ => ?_) ht
  subst ex
  obtain rfl : u = Value.ref a := rx
  obtain ⟨f, fd, F, hm, hb⟩ := M.ex
  refine getmeth_ok I1 ea M.cl hm l ?_
  exact PySem.W.callWith_K0 (first := [.ref a]) I1.kIn hm.kp (run_fn (us := [.ref a]) (vs := [.ref a]) (dvs := []) (ds := []) (E := E0) F.ok hr.room hb .nil pass01 I1 (.cons rfl .nil) q)
theorem pe_mkB (M : MkC X.prog X.w X.K X.mg X.base k x C ps sp) (hr : RoomB true (k + 1) X.A) (ha : PA X (e :: es) t) (hg : Gl X x := by rfl) (hdb : (x == ("__debug__" : Str)) = false := by decide)
    (he : starEach (e :: es) X.env = (false, eval e X.env) :: starEach es X.env := by rfl) (hpl : (backTo pos (starEach es X.env)).any (·.1) = false := by rfl) :
    PE X (.Call (.Name x p) (e :: es) [] pos) (tMake C sp [] E0 t) := by
  obtain ⟨f, fd, F, hm, hb⟩ := M.ex
  exact pe_make hm F.ok hr.room hg M.mg hb .nil pass01 ha hdb he hpl
theorem pe_fldB {f : Str} (he : PE X e ta) (hb : attributeBase e f X.env (eval e X.env) = eval e X.env := by rfl) : PE X (.Attribute e f pos) (tFld X.K ta f) := pe_fld he hb
theorem ps_fldB {f : Str} {pos' : Pos} {value : Expr} {tv : TE} (ha : PE X o ta) (hv : PE X value tv) (hs : swapsWith value (some (.Attribute o f pos')) pos.line X.env = pure false := by rfl) : PS X (.Assign [.Attribute o f pos'] value pos) (sFld X.K ta tv f) := ps_fld ha hv hs
end
end L2
namespace Fr
theorem num_den_le {r : Rat} {t b : Int} (h : b ≠ 0) (e : r = Rat.divInt t b) : r.num.natAbs ≤ t.natAbs ∧ r.den ≤ b.natAbs := by
  subst e
  have h1 := lt_abs t b h
  have h2 := lb_abs (t := t) h
  rw [lt_num h] at h1
  rw [lb_den h, Int.natAbs_natCast] at h2
  exact ⟨h1, h2⟩
structure Bd (k : Nat) (q : Rat) : Prop where
  n : q.num.natAbs < 2 ^ k
  d : q.den < 2 ^ k
theorem pow_le {m n : Nat} (h : m ≤ n) : 2 ^ m ≤ 2 ^ n := Nat.pow_le_pow_right (by decide) h
theorem Bd.of {n : Nat} {t b : Int} (b0 : b ≠ 0) (ht : t.natAbs < 2 ^ n) (hb : b.natAbs < 2 ^ n) : Bd n (Rat.divInt t b) := by
  obtain ⟨h1, h2⟩ := num_den_le b0 (rfl : Rat.divInt t b = Rat.divInt t b)
  exact ⟨by omega, by omega⟩
theorem mul_lt {a b m n : Nat} (ha : a < 2 ^ m) (hb : b < 2 ^ n) : a * b < 2 ^ (m + n) := by
  rw [Nat.pow_add]
  exact Nat.mul_lt_mul'' ha hb
theorem abs_mul {x y : Int} {m n : Nat} (hx : x.natAbs < 2 ^ m) (hy : y.natAbs < 2 ^ n) : (x * y).natAbs < 2 ^ (m + n) := by
  rw [Int.natAbs_mul]; exact mul_lt hx hy
theorem abs_add {x y : Int} {n : Nat} (hx : x.natAbs < 2 ^ n) (hy : y.natAbs < 2 ^ n) : (x + y).natAbs < 2 ^ (n + 1) := by
  have := Int.natAbs_add_le x y
  rw [Nat.pow_succ]
  omega
theorem abs_sub {x y : Int} {n : Nat} (hx : x.natAbs < 2 ^ n) (hy : y.natAbs < 2 ^ n) : (x - y).natAbs < 2 ^ (n + 1) := by
  rw [Nat.pow_succ]
  omega
theorem Bd.dn {n : Nat} {q : Rat} (h : Bd n q) : ((q.den : Int)).natAbs < 2 ^ n := by rw [Int.natAbs_natCast]; exact h.d
theorem dd0 (p q : Rat) : (p.den : Int) * (q.den : Int) ≠ 0 := Int.mul_ne_zero (den_ne p) (den_ne q)
section
variable {m n : Nat} {p q : Rat} (hp : Bd m p) (hq : Bd n q)
include hp hq
theorem Bd.add : Bd (m + n + 1) (p + q) := by
  rw [← sum_rat]
  refine Bd.of (dd0 p q) (abs_add (abs_mul hp.n hq.dn) ?_) (Nat.lt_of_lt_of_le (abs_mul hp.dn hq.dn) (pow_le (by omega)))
  have := abs_mul hq.n hp.dn
  rw [Nat.add_comm m n]; exact this
theorem Bd.sub : Bd (m + n + 1) (p - q) := by
  rw [← less_rat]
  refine Bd.of (dd0 p q) (abs_sub (abs_mul hp.n hq.dn) ?_) (Nat.lt_of_lt_of_le (abs_mul hp.dn hq.dn) (pow_le (by omega)))
  have := abs_mul hq.n hp.dn
  rw [Nat.add_comm m n]; exact this
end
end Fr
namespace Op
open Fr
inductive Pc where
  | gap (d : Rat)
  | glass (p : Rat)
  | stop (lo hi : Rat)
abbrev Ray := Rat × Rat
def Pc.lets : Pc → Ray → Bool
  | .stop lo hi, r => !decide (r.1 < lo) && !decide (hi < r.1)
  | _, _ => true
def Pc.ok : Pc → Prop
  | .stop lo hi => ¬ hi < lo
  | _ => True
def Pc.bd (m : Nat) : Pc → Prop
  | .gap d => Bd m d
  | .glass p => Bd m p
  | .stop lo hi => Bd m lo ∧ Bd m hi
end Op
namespace Lib
open PySem L2 Fr Op
def frD (q : Rat) : PyData := .tuple [.int q.num, .int (q.den : Int)]
def pcD : Pc → PyData
  | .gap d => .tuple [.str "gap", frD d]
  | .glass p => .tuple [.str "glass", frD p]
  | .stop lo hi => .tuple [.str "stop", frD lo, frD hi]
def benchD (ps : List Pc) : PyData := .list (ps.map pcD)
section
variable {K : PySem.W.Frag} {H : Hp} {v : V}
theorem _root_.L2.DV.fr {q : Rat} (h : DV K H v (frD q)) : ∃ a, v = .ref a ∧ SqT K H a [.int q.num, .int (q.den : Int)] := by
  obtain ⟨a, x, y, rfl, ha, hx, hy⟩ := DV.t2 h
  rw [hx.int_of, hy.int_of] at ha
  exact ⟨a, rfl, ha⟩
theorem dv_fr {q : Rat} {a : Addr} (h : SqT K H a [.int q.num, .int (q.den : Int)]) : DV K H (.ref a) (frD q) := .tup h (.cons (.int _) (.cons (.int _) .nil))
theorem dv_low {t b : Int} {p : Addr} (b0 : b ≠ 0) : DV K (upd H p (.tup [.int (Fr.lt t b), .int (Fr.lb t b)])) (.ref p) (frD (Rat.divInt t b)) := by
  rw [frO_of b0]
  exact dv_fr (SqT.of upd_same)
end
theorem _root_.Fr.Bd.sm {n : Nat} {q : Rat} (h : Bd n q) (hn : n ≤ 4000) : Sm q := ⟨Nat.lt_of_lt_of_le h.n (by unfold lim2; exact pow_le hn), Nat.lt_of_lt_of_le h.d (by unfold lim2; exact pow_le hn)⟩
structure Flat (n : Nat) (d : PyData) : Prop where
  c : d.canLay0 = true
  d : d.depth ≤ n
theorem Flat.sh {n : Nat} {d : PyData} (h : Flat n d) (hn : n ≤ 64) : SeqAt.shaped d = true := by
  unfold SeqAt.shaped
  rw [h.c, Bool.true_and]
  exact decide_eq_true (Nat.le_trans h.d hn)
theorem flat_all {n : Nat} : ∀ {ds : List PyData}, (∀ d ∈ ds, Flat n d) → PyData.canLayAll0 ds = true ∧ PyData.depthAll ds ≤ n
  | [], _ => ⟨rfl, Nat.zero_le _⟩
  | d :: ds, h => by
    obtain ⟨h1, h2⟩ := flat_all (fun x hx => h x (List.mem_cons_of_mem _ hx))
    have h3 := h d List.mem_cons_self
    refine ⟨?_, ?_⟩
    · rw [PyData.canLayAll0, h3.c, h1]; rfl
    · rw [PyData.depthAll]; exact Nat.max_le.mpr ⟨h3.d, h2⟩
theorem flat_tup {n : Nat} {ds : List PyData} (h : ∀ d ∈ ds, Flat n d) : Flat (n + 1) (.tuple ds) := ⟨(flat_all h).1, by rw [PyData.depth]; exact Nat.succ_le_succ (flat_all h).2⟩
theorem flat_lst {n : Nat} {ds : List PyData} (h : ∀ d ∈ ds, Flat n d) : Flat (n + 1) (.list ds) := ⟨(flat_all h).1, by rw [PyData.depth]; exact Nat.succ_le_succ (flat_all h).2⟩
theorem flat_fr (q : Rat) : Flat 1 (frD q) := ⟨rfl, by show 1 ≤ 1; exact Nat.le_refl _⟩
theorem flat_pc : ∀ p : Pc, Flat 2 (pcD p)
  | .gap d => flat_tup fun x hx => by
    simp only [List.mem_cons, List.not_mem_nil, or_false] at hx
    rcases hx with rfl | rfl
    · exact ⟨by decide +kernel, by decide⟩
    · exact flat_fr _
  | .glass d => flat_tup fun x hx => by
    simp only [List.mem_cons, List.not_mem_nil, or_false] at hx
    rcases hx with rfl | rfl
    · exact ⟨by decide +kernel, by decide⟩
    · exact flat_fr _
  | .stop lo hi => flat_tup fun x hx => by
    simp only [List.mem_cons, List.not_mem_nil, or_false] at hx
    rcases hx with rfl | rfl | rfl
    · exact ⟨by decide +kernel, by decide⟩
    · exact flat_fr _
    · exact flat_fr _
theorem flat_map {α : Type} {n : Nat} {f : α → PyData} (h : ∀ x, Flat n (f x)) (l : List α) : ∀ d ∈ l.map f, Flat n d := fun d hd => by
  obtain ⟨x, _, rfl⟩ := List.mem_map.mp hd
  exact h x
theorem flat_bench (ps : List Pc) : Flat 3 (benchD ps) := flat_lst (flat_map flat_pc ps)
mutual
def noL : PyData → Bool
  | .list _ => false
  | .dict _ => false
  | .tuple ds => noLs ds
  | .none => true
  | .bool _ => true
  | .int _ => true
  | .str _ => true
def noLs : List PyData → Bool
  | [] => true
  | d :: ds => noL d && noLs ds
end
def SameT (H H' : Hp) : Prop := ∀ b xs, (H b = some (.tup xs) → H' b = some (.tup xs)) ∧ ∀ o, H b = some (.frz o (.tup xs)) → H' b = some (.frz o (.tup xs))
theorem _root_.L2.Same.t {H H' : Hp} (s : Same H H') : SameT H H' := fun b xs => ⟨fun h => s _ _ h, fun o h => s _ _ h⟩
theorem sameT_upd {H : Hp} {l : Addr} {xs : List V} (h : H l = some (.lst xs)) (o : HO) : SameT H (upd H l o) := fun b ys => ⟨fun e => by rw [upd_ne (fun z => by rw [z, h] at e; cases e)]; exact e, fun o e => by rw [upd_ne (fun z => by rw [z, h] at e; cases e)]; exact e⟩
mutual
theorem dv_keepT {K : PySem.W.Frag} {H H' : Hp} (s : SameT H H') : ∀ {v : V} {d : PyData}, noL d = true → DV K H v d → DV K H' v d
  | _, _, _, .non => .non
  | _, _, _, .bl b => .bl b
  | _, _, _, .int i => .int i
  | _, _, _, .str x => .str x
  | _, _, n, .lst h q => nomatch n
  | _, _, n, .tup h q => .tup (by
      rcases h with (h | ⟨o, h⟩) | h
      · exact .inl (.inl ((s _ _).1 h))
      · exact .inl (.inr ⟨o, (s _ _).2 o h⟩)
      · exact .inr h) (dvs_keepT s n q)
  | _, _, n, .dct h => nomatch n
theorem dvs_keepT {K : PySem.W.Frag} {H H' : Hp} (s : SameT H H') : ∀ {vs : List V} {ds : List PyData}, noLs ds = true → DVs K H vs ds → DVs K H' vs ds
  | _, _, _, .nil => .nil
  | _, _, n, .cons h q => .cons (dv_keepT s (by rw [noLs] at n; exact (Bool.and_eq_true_iff.mp n).1) h) (dvs_keepT s (by rw [noLs] at n; exact (Bool.and_eq_true_iff.mp n).2) q)
end
theorem noLs_map {α : Type} {f : α → PyData} (h : ∀ x, noL (f x) = true) : ∀ l : List α, noLs (l.map f) = true
  | [] => rfl
  | x :: l => by rw [List.map_cons, noLs, h x, noLs_map h l]; rfl
theorem noL_pc : ∀ p : Pc, noL (pcD p) = true
  | .gap _ => rfl
  | .glass _ => rfl
  | .stop _ _ => rfl
def PR (K : PySem.W.Frag) (R : List PyData → PyData → Prop) : Sp := fun vs H Q _ => ∃ ds d, DVs K H vs ds ∧ R ds d ∧ ∀ v H', Same H H' → DV K H' v d → Q v H'
def RBin (g : Rat → Rat → Rat) : List PyData → PyData → Prop := fun ds d => ∃ p q, ds = [frD p, frD q] ∧ Sm p ∧ Sm q ∧ d = frD (g p q)
def RLess : List PyData → PyData → Prop := fun ds d => ∃ p q, ds = [frD p, frD q] ∧ Sm p ∧ Sm q ∧ d = .bool (decide (p < q))
theorem DV.upd2 {K : PySem.W.Frag} {H : Hp} {r : Addr} {x y : V} {d1 d2 : PyData} (hr : H r = none) (hx : DV K H x d1) (hy : DV K H y d2) : DV K (upd H r (.tup [x, y])) (.ref r) (.tuple [d1, d2]) :=
  .tup (SqT.of upd_same) (.cons (hx.keep (same_new hr _)) (.cons (hy.keep (same_new hr _)) .nil))
theorem DV.upd3 {K : PySem.W.Frag} {H : Hp} {r : Addr} {x y z : V} {d1 d2 d3 : PyData} (hr : H r = none) (hx : DV K H x d1) (hy : DV K H y d2) (hz : DV K H z d3) : DV K (upd H r (.tup [x, y, z])) (.ref r) (.tuple [d1, d2, d3]) :=
  .tup (SqT.of upd_same) (.cons (hx.keep (same_new hr _)) (.cons (hy.keep (same_new hr _)) (.cons (hz.keep (same_new hr _)) .nil)))
def ratD : PyData → Bool
  | .tuple [.int t, .int b] => decide (1 ≤ b) && decide (Fr.gcd t b = 1)
  | _ => false
def isIntD : PyData → Bool
  | .int _ => true
  | _ => false
def isTupD : PyData → Bool
  | .tuple _ => true
  | _ => false
theorem isInt_b (d : PyData) : ∃ b c, bsub (tyD d) "int" = some b ∧ bsub (tyD d) "bool" = some c ∧ (b && !c) = isIntD d := by
  cases d with
  | none => exact ⟨false, false, by show bsub "NoneType" "int" = _; decide +kernel, by show bsub "NoneType" "bool" = _; decide +kernel, rfl⟩
  | bool b => exact ⟨true, true, by show bsub "bool" "int" = _; decide +kernel, by show bsub "bool" "bool" = _; decide +kernel, rfl⟩
  | int i => exact ⟨true, false, by show bsub "int" "int" = _; decide +kernel, by show bsub "int" "bool" = _; decide +kernel, rfl⟩
  | str x => exact ⟨false, false, by show bsub "str" "int" = _; decide +kernel, by show bsub "str" "bool" = _; decide +kernel, rfl⟩
  | list xs => exact ⟨false, false, by show bsub "list" "int" = _; decide +kernel, by show bsub "list" "bool" = _; decide +kernel, rfl⟩
  | tuple xs => exact ⟨false, false, by show bsub "tuple" "int" = _; decide +kernel, by show bsub "tuple" "bool" = _; decide +kernel, rfl⟩
  | dict xs => exact ⟨false, false, by show bsub "dict" "int" = _; decide +kernel, by show bsub "dict" "bool" = _; decide +kernel, rfl⟩
theorem isTup_b (d : PyData) : bsub (tyD d) "tuple" = some (isTupD d) := by
  cases d with
  | none => show bsub "NoneType" "tuple" = some false; decide +kernel
  | bool b => show bsub "bool" "tuple" = some false; decide +kernel
  | int i => show bsub "int" "tuple" = some false; decide +kernel
  | str x => show bsub "str" "tuple" = some false; decide +kernel
  | list xs => show bsub "list" "tuple" = some false; decide +kernel
  | tuple xs => show bsub "tuple" "tuple" = some true; decide +kernel
  | dict xs => show bsub "dict" "tuple" = some false; decide +kernel
def isLstD : PyData → Bool
  | .list _ => true
  | _ => false
theorem isLst_b (d : PyData) : bsub (tyD d) "list" = some (isLstD d) := by
  cases d with
  | none => show bsub "NoneType" "list" = some false; decide +kernel
  | bool b => show bsub "bool" "list" = some false; decide +kernel
  | int i => show bsub "int" "list" = some false; decide +kernel
  | str x => show bsub "str" "list" = some false; decide +kernel
  | list xs => show bsub "list" "list" = some true; decide +kernel
  | tuple xs => show bsub "tuple" "list" = some false; decide +kernel
  | dict xs => show bsub "dict" "list" = some false; decide +kernel
def isStrD : PyData → Bool
  | .str _ => true
  | _ => false
theorem isStr_of {d : PyData} (h : isStrD d = true) : ∃ x, d = .str x := by
  cases d with
  | str i => exact ⟨i, rfl⟩
  | _ => cases h
theorem isStr_b (d : PyData) : bsub (tyD d) "str" = some (isStrD d) := by
  cases d with
  | none => show bsub "NoneType" "str" = some false; decide +kernel
  | bool b => show bsub "bool" "str" = some false; decide +kernel
  | int i => show bsub "int" "str" = some false; decide +kernel
  | str x => show bsub "str" "str" = some true; decide +kernel
  | list xs => show bsub "list" "str" = some false; decide +kernel
  | tuple xs => show bsub "tuple" "str" = some false; decide +kernel
  | dict xs => show bsub "dict" "str" = some false; decide +kernel
def spW (K : PySem.W.Frag) : Sp := fun vs H Q _ => ∃ v d, vs = [v] ∧ DV K H v d ∧ Q (.bl (isIntD d)) H
end Lib
namespace Lib
open PySem L2 Fr Op
theorem iteT' {b : Bool} {A B : Prop} (hb : b = true) (h : A) : if b = true then A else B := by rw [if_pos hb]; exact h
theorem iteF' {b : Bool} {A B : Prop} (hb : b = false) (h : B) : if b = true then A else B := by rw [if_neg (by rw [hb]; exact Bool.false_ne_true)]; exact h
theorem sIx1 (n d : Nat) : HT.sIx n d (some 1) = min 1 n := HT.sIx_nat n d 1
theorem cut1 (xs : List V) : cutV xs (some 1) none = xs.drop 1 := by
  unfold cutV
  rw [sIx1, HT.sIx_none]
  cases xs with
  | nil => rfl
  | cons x r =>
    rw [show min 1 (x :: r).length = 1 by simp only [List.length_cons]; omega]
    exact List.take_of_length_le (by simp)
theorem decS (x y : Str) : decide (V.str x = V.str y) = decide (x = y) := by
  by_cases h : x = y
  · subst h; simp
  · have : ¬ V.str x = V.str y := fun z => h (V.str.inj z)
    rw [decide_eq_false h, decide_eq_false this]
structure Good (m : Nat) (ps : List Pc) : Prop where
  len : ps.length ≤ 60
  ok : ∀ p ∈ ps, p.ok
  bd : ∀ p ∈ ps, p.bd m
def spLook (K : PySem.W.Frag) : Sp := fun vs H Q _ => ∃ v ps m, vs = [v] ∧ DV K H v (benchD ps) ∧ Good m ps ∧ m ≤ 4000 ∧ ∀ H', Same H H' → Q .non H'
theorem get_map_pc {ps : List Pc} {i : Nat} {d : PyData} (h : (ps.map pcD)[i]? = some d) : ∃ p, ps[i]? = some p ∧ d = pcD p := by
  rw [List.getElem?_map] at h
  cases e : ps[i]? with
  | none => rw [e] at h; cases h
  | some p => rw [e] at h; exact ⟨p, rfl, (Option.some.inj h).symm⟩
end Lib
namespace Lib
open PySem L2 Fr Op
theorem cutV_le0 (xs : List V) (hi : Nat) : (cutV xs none (some (hi : Int))).length ≤ hi := by
  unfold cutV
  rw [HT.sIx_nat, HT.sIx_none, List.length_take]
  omega
theorem frD_neg (q : Rat) : frD (-q) = .tuple [.int (0 - q.num), .int (q.den : Int)] := by
  unfold frD
  rw [Rat.neg_num, Rat.neg_den, Int.zero_sub]
end Lib
namespace Lib
open PySem L2 Fr Op
theorem in_words (z : Str) : (if false = true then !inV (.str z) [.str "gap", .str "glass"] else inV (.str z) [.str "gap", .str "glass"]) = (decide (z = "gap") || decide (z = "glass")) := by
  rw [if_neg Bool.false_ne_true]
  unfold inV
  simp only [List.any_cons, List.any_nil, Bool.or_false]
  have h : ∀ w : Str, eqV (.str w) (.str z) = decide (z = w) := fun w => by
    show decide (w = z) = decide (z = w)
    exact decide_eq_decide.mpr ⟨Eq.symm, Eq.symm⟩
  rw [h, h]
end Lib
namespace Lib
open PySem L2 Fr Op
theorem atI0 {x : V} {xs : List V} : atI (x :: xs) 0 = some x := atI_nat (j := 0) rfl
end Lib
namespace Op
open Fr
end Op
namespace Lib
open PySem L2 Fr Op
end Lib
namespace Op
open Fr
end Op
namespace Lib
open PySem L2 Fr Op
end Lib
namespace L2
open PySem PySem.Spec PyProof.Rows
theorem clos_run (env : Env) : ∀ (l : List (Str × NameKind)) (acc : List (Str × Addr)), (∀ y ∈ l, y.2 = .free → ∃ c, env.cells.lookup y.1 = some c) →
    ∃ cl, (forIn l acc fun (x : Str × NameKind) (cs : List (Str × Addr)) => (if (x.2 == NameKind.free) = true then (cellOf env x.1 >>= fun a => pure (ForInStep.yield ((x.1, a) :: cs))) else pure (ForInStep.yield cs) : Sem (ForInStep (List (Str × Addr))))) = pure cl ∧
      (∀ y c, cl.lookup y = some c → acc.lookup y = some c ∨ env.cells.lookup y = some c) ∧ (∀ y c, acc.lookup y = some c → ∃ c', cl.lookup y = some c') ∧ ∀ y ∈ l, y.2 = .free → ∃ c, cl.lookup y.1 = some c := by
  intro l
  induction l with
  | nil => intro acc _; exact ⟨acc, rfl, fun y c e => .inl e, fun y c e => ⟨c, e⟩, fun _ h => nomatch h⟩
  | cons x r ih =>
    intro acc h
    obtain ⟨n, k⟩ := x
    have hr : ∀ y ∈ r, y.2 = .free → ∃ c, env.cells.lookup y.1 = some c := fun y hy => h y (List.mem_cons_of_mem _ hy)
    rw [List.forIn_cons]
    by_cases hk : k = .free
    · subst hk
      obtain ⟨c, hc⟩ := h (n, .free) List.mem_cons_self rfl
      have ec : cellOf env n = pure c := by unfold cellOf; rw [show env.cells.lookup n = some c from hc]
      rw [if_pos (by rfl), ec, pure_bind, pure_bind]
      obtain ⟨cl, e, h1, h2, h3⟩ := ih ((n, c) :: acc) hr
      refine ⟨cl, e, fun y c' hy => ?_, fun y c' hy => ?_, fun y hy hf => ?_⟩
      · rcases h1 y c' hy with z | z
        · rw [List.lookup_cons] at z
          split at z
          · rename_i ey
            have ey : y = n := by simpa using ey
            subst ey
            cases z
            exact .inr hc
          · exact .inl z
        · exact .inr z
      · by_cases ey : y = n
        · subst ey
          exact h2 y c (by simp)
        · have eb : (y == n) = false := by simpa using ey
          exact h2 y c' (by rw [List.lookup_cons, eb]; exact hy)
      · rcases List.mem_cons.mp hy with z | z
        · subst z
          exact h2 n c (by simp)
        · exact h3 y z hf
    · have hb : ¬ (k == NameKind.free) = true := by simpa using hk
      rw [if_neg hb, pure_bind]
      obtain ⟨cl, e, h1, h2, h3⟩ := ih acc hr
      refine ⟨cl, e, h1, h2, fun y hy hf => ?_⟩
      rcases List.mem_cons.mp hy with z | z
      · subst z; exact absurd hf hk
      · exact h3 y z hf
theorem cap_of {X : Cx} {scope : Scope} (hcell : ∀ y ∈ scope.names, y.2 ≠ .cell) (hf : ∀ y ∈ scope.names, y.2 = .free → ∃ c, X.env.cells.lookup y.1 = some c) : ∃ cl, CapOk X scope cl := by
  obtain ⟨cl, e, h1, h2, h3⟩ := clos_run X.env scope.names [] hf
  refine ⟨cl, ?_, fun y c hy => ?_, fun y hy => ?_⟩
  · unfold closureFor
    rw [show (pure cl : Sem _) = (pure cl >>= fun cs => pure cs) by rw [pure_bind], ← e]
  · rcases h1 y c hy with z | z
    · simp at z
    · exact z
  · have hm : ∃ k, (y, k) ∈ (relabel scope X.env).names ∧ (k = .cell ∨ k = .free) := by
      rcases hy with z | z
      · exact ⟨_, PySem.mem_of_lookup z, .inl rfl⟩
      · exact ⟨_, PySem.mem_of_lookup z, .inr rfl⟩
    obtain ⟨k, hm, hk⟩ := hm
    unfold relabel at hm
    obtain ⟨⟨n, k'⟩, hn, e'⟩ := List.mem_map.mp hm
    have hk' : k' = .free := by
      by_cases z : k' = .free
      · exact z
      · have zb : (k' == NameKind.free) = false := by simpa using z
        simp only [zb, Bool.false_and, Bool.false_eq_true, if_false, Prod.mk.injEq] at e'
        obtain ⟨_, rfl⟩ := e'
        rcases hk with rfl | rfl
        · exact absurd rfl (hcell _ hn)
        · exact absurd rfl z
    subst hk'
    have en : n = y := by
      dsimp only at e'
      split at e'
      · exact (Prod.mk.inj e').1
      · exact (Prod.mk.inj e').1
    subst en
    exact h3 _ hn rfl
theorem cap_def {X : Cx} {scope : Scope} {n : Nat} (hc : X.env.cells = cellsFrom n X.env.scope.names [] := by rfl) (hcell : ∀ y ∈ scope.names, y.2 ≠ .cell) (hf : ∀ y ∈ scope.names, y.2 = .free → X.env.scope.names.lookup y.1 = some .cell) : ∃ cl, CapOk X scope cl :=
  cap_of hcell fun y hy hz => by
    rw [hc]
    exact cell_has (hf y hy hz)
section
variable {X : Cx} {tg elt iter : Expr} {ifs : List Expr} {scope : Scope} {pos spos py : Pos} {wi : TI} {g : TG} {tt : TT} {te : TE}
theorem pe_compX (N' : List Str) (caps : List (Option Nat)) (hc : X.calm = true) (hi : PI X tg iter wi)
    (hg : ∀ cl C fp pins s2 H2, PG (cxC X scope cl N' C fp pins s2 H2) tg g) (ht : ∀ cl C fp pins s2 H2, PIfs (cxC X scope cl N' C fp pins s2 H2) ifs tt) (he : ∀ cl C fp pins s2 H2, PE (cxC X scope cl N' C fp pins s2 H2) elt te)
    (cap : ∃ cl, CapOk X scope cl) (hcell : ∀ y ∈ scope.names, y.2 ≠ .cell) (hkind : scope.kind = .function) (hnames : ∀ y ∈ scope.names, y.2 = .local → scope.names.lookup y.1 = some .local) (hN : caps.length = N'.length)
    (hcap : ∀ (i j : Nat), caps[i]? = some (some j) → ∃ y : Str, N'[i]? = some y ∧ X.N[j]? = some y ∧ (relabel scope X.env).names.lookup y = some .cell ∧ X.env.scope.names.lookup y = some .cell)
    (hs : ∀ x, foldedSetIterable iter X.env x = pure x := by intro _; rfl) :
    PE X (.ListComp elt [⟨tg, iter, ifs, 0⟩] scope pos) (tComp wi g tt te caps) := by
  obtain ⟨cl, cap⟩ := cap
  exact pe_comp N' caps hc hi (hg cl) (ht cl) (he cl) cap hcell hkind hnames hN hcap hs
end
end L2
namespace Lib
open PySem L2 Fr Op
theorem flat_nil : Flat 1 (.list []) := flat_lst fun _ h => nomatch h
theorem ne_nil {K : PySem.W.Frag} {H : Hp} {x y : V} {n : Nat} {ds : List PyData} {Q : VK} (hx : DV K H x (.list ds)) (hy : DV K H y (.list [])) (f : Flat n (.list ds)) (k : Q (.bl (!ds.isEmpty)) H) (hn : n ≤ 64 := by decide) : rNeD K x y H Q := by
  refine ⟨_, _, hx, hy, f.sh hn, flat_nil.sh (by decide), ?_⟩
  have e : PyData.eqv (.list ds) (.list []) = ds.isEmpty := by
    cases ds with
    | nil => rfl
    | cons d ds => simp [PyData.eqv, PyData.eqvAll]
  rw [e]
  exact k
end Lib
namespace Lib
open PySem L2 Fr Op
def spRatG (K : PySem.W.Frag) : Sp := fun vs H Q _ => ∃ v q, vs = [v] ∧ DV K H v (frD q) ∧ Q (.bl true) H
def spPieceG (K : PySem.W.Frag) : Sp := fun vs H Q _ => ∃ (v : V) (p : Pc) (m : Nat), vs = [v] ∧ DV K H v (pcD p) ∧ p.ok ∧ p.bd m ∧ m ≤ 4000 ∧ ∀ H', Same H H' → Q (.bl true) H'
inductive PSh (m : Nat) : Str → List Rat → Prop where
  | stop {lo hi : Rat} : ¬ hi < lo → Bd m lo → Bd m hi → PSh m "stop" [lo, hi]
  | one {w : Str} {d : Rat} : decide (w = "stop") = false → (decide (w = "gap") || decide (w = "glass")) = true → PSh m w [d]
theorem pc_shape {m : Nat} : ∀ {p : Pc}, p.ok → p.bd m → ∃ w es, pcD p = .tuple (.str w :: es.map frD) ∧ PSh m w es
  | .gap d, _, _ => ⟨"gap", [d], rfl, .one (by decide) (by decide)⟩
  | .glass d, _, _ => ⟨"glass", [d], rfl, .one (by decide) (by decide)⟩
  | .stop lo hi, h, b => ⟨"stop", [lo, hi], rfl, .stop h b.1 b.2⟩
theorem PSh.len {m : Nat} {w : Str} {es : List Rat} : PSh m w es → 0 < es.length ∧ es.length ≤ 2
  | .stop .. => ⟨by simp, by simp⟩
  | .one .. => ⟨by simp, by simp⟩
theorem all_rep (n : Nat) : (List.replicate n true).all id = true := by simp
theorem rep_map (n : Nat) : (List.replicate n true).map V.bl = List.replicate n (V.bl true) := by simp
theorem get_fr {es : List Rat} {i : Nat} {d : PyData} (h : (es.map frD)[i]? = some d) : ∃ q, d = frD q := by
  rw [List.getElem?_map] at h
  cases e : es[i]? with
  | none => rw [e] at h; cases h
  | some q => rw [e] at h; cases h; exact ⟨q, rfl⟩
end Lib
namespace Op
open Fr
end Op
namespace Lib
open PySem L2 Fr Op
end Lib
namespace Lib
open PySem L2 Fr Op
end Lib
namespace Lib
open PySem L2 Fr Op
theorem by1 {α : Type} {p : List α → Prop} (h : ∀ a, p [a]) : ∀ us : List α, us.length = 1 → p us
  | [_], _ => h _
theorem by2 {α : Type} {p : List α → Prop} (h : ∀ a b, p [a, b]) : ∀ us : List α, us.length = 2 → p us
  | [_, _], _ => h _ _
theorem by3 {α : Type} {p : List α → Prop} (h : ∀ a b c, p [a, b, c]) : ∀ us : List α, us.length = 3 → p us
  | [_, _, _], _ => h _ _ _
theorem by4 {α : Type} {p : List α → Prop} (h : ∀ a b c d, p [a, b, c, d]) : ∀ us : List α, us.length = 4 → p us
  | [_, _, _, _], _ => h _ _ _ _
end Lib
namespace Lib
open PySem L2 Fr Op
end Lib
namespace Lib
open PySem L2 Fr Op
structure DrA (H : Hp) (d c : Addr) (L : List V) : Prop where
  d : ∃ a n : Int, 0 ≤ n ∧ H d = some (.lst [.int a, .ref c, .int n])
  c : H c = some (.lst L)
  i : ∀ x ∈ L, ∃ z : Int, x = .int z
  l : 0 < L.length
  m : L.length ≤ 100
def SD (d : Addr) (H H' : Hp) : Prop := ∀ b o, b ≠ d → H b = some o → H' b = some o
theorem SD.refl (d : Addr) (H : Hp) : SD d H H := fun _ _ _ h => h
theorem SD.trans {d : Addr} {H H1 H2 : Hp} (a : SD d H H1) (b : SD d H1 H2) : SD d H H2 := fun c o n h => b c o n (a c o n h)
theorem _root_.L2.Same.sd {H H' : Hp} (s : Same H H') (d : Addr) : SD d H H' := fun b o _ h => s b o h
theorem SD.t {d : Addr} {H H' : Hp} {xs : List V} (s : SD d H H') (h : H d = some (.lst xs)) : SameT H H' := fun b ys => ⟨fun e => s b _ (fun z => by rw [z, h] at e; cases e) e, fun o e => s b _ (fun z => by rw [z, h] at e; cases e) e⟩
theorem DrA.keep {H H' : Hp} {d c : Addr} {L : List V} (h : DrA H d c L) (s : Same H H') : DrA H' d c L := by
  obtain ⟨a, n, h0, h1⟩ := h.d
  exact ⟨⟨a, n, h0, s _ _ h1⟩, s _ _ h.c, h.i, h.l, h.m⟩
theorem DrA.ne {H : Hp} {d c : Addr} {L : List V} (h : DrA H d c L) : c ≠ d := fun e => by
  obtain ⟨a, n, h0, h1⟩ := h.d
  have h2 := h.c
  rw [e, h1] at h2
  cases h2
  obtain ⟨z, e⟩ := h.i (.ref c) (by simp)
  cases e
theorem DrA.t {H H' : Hp} {d c : Addr} {L : List V} (h : DrA H d c L) (s : SD d H H') : SameT H H' := by
  obtain ⟨a, n, h0, h1⟩ := h.d
  exact s.t h1
theorem DrA.dv {K : PySem.W.Frag} {H H' : Hp} {d c : Addr} {L : List V} {v : V} {x : PyData} (h : DrA H d c L) (s : SD d H H') (hx : DV K H v x) (n : noL x = true := by rfl) : DV K H' v x := dv_keepT (h.t s) n hx
theorem sd_upd {H : Hp} {d : Addr} {o : HO} : SD d H (upd H d o) := fun b u n h => by rw [upd_ne n]; exact h
def spDraw : Sp := fun vs H Q _ => ∃ (d c : Addr) (L : List V) (m : Int), vs = [.ref d, .int m] ∧ DrA H d c L ∧ 0 < m ∧ ∀ (x : Int) H', 0 ≤ x → x < m → DrA H' d c L → SD d H H' → Q (.int x) H'
def spDrawn (K : PySem.W.Frag) : Sp := fun vs H Q _ => ∃ (a : Addr) (ns : List Int) (st : Int), vs = [.ref a, .int st] ∧ SqL K H a (ns.map V.int) ∧ ∀ d c L H', Same H H' → H d = none → DrA H' d c L → Q (.ref d) H'
def spLowP : Sp := fun vs H Q _ => ∃ t b : Int, vs = [.int t, .int b] ∧ 0 < b ∧ b.natAbs < lim ∧ ∀ p, H p = none → Q (.ref p) (upd H p (.tup [.int (Fr.lt t b), .int (Fr.lb t b)]))
theorem noL_fr (q : Rat) : noL (frD q) = true := rfl
end Lib
namespace Lib
open PySem L2 Fr Op
theorem DrA.keepD {H H' : Hp} {d c l : Addr} {L : List V} (h : DrA H d c L) (s : SD l H H') (hd : d ≠ l) (hc : c ≠ l) : DrA H' d c L := by
  obtain ⟨a, n, h0, h1⟩ := h.d
  exact ⟨⟨a, n, h0, s _ _ hd h1⟩, s _ _ hc h.c, h.i, h.l, h.m⟩
end Lib
namespace Lib
open PySem L2 Fr Op
end Lib
namespace Lib
open PySem L2 Fr Op
end Lib
namespace Lib
open PySem L2 Fr Op
end Lib
namespace Lib
open PySem L2 Fr Op
end Lib
namespace Lib
open PySem L2 Fr Op
end Lib
namespace Lib
open PySem L2 Fr Op
end Lib
namespace Lib
open PySem L2 Fr Op
end Lib
namespace Lib
open PySem L2 Fr Op
end Lib
namespace Lib
open PySem L2 Fr Op
end Lib
namespace Lib
open PySem L2 Fr Op
end Lib
namespace Lib
open PySem L2 Fr Op
end Lib
namespace Op
open Fr
end Op
namespace Lib
open PySem L2 Fr Op
end Lib
namespace Lib
open PySem L2 Fr Op
end Lib
namespace L2
open PySem PySem.Spec PyProof.Rows
def pickV (xs : List V) (lo hi st : Option Int) : List V := (sliceRange (sliceBounds lo hi st xs.length).1 (sliceBounds lo hi st xs.length).2.1 (sliceBounds lo hi st xs.length).2.2).filterMap (xs[·]?)
theorem Vals.pick {xs : List V} {its : List Value} (r : Vals xs its) : ∀ L : List Nat, Vals (L.filterMap (xs[·]?)) (L.filterMap (its[·]?))
  | [] => .nil
  | j :: L => by
    cases e : xs[j]? with
    | some x =>
      obtain ⟨u, hu, ru⟩ := r.get e
      rw [List.filterMap_cons_some e, List.filterMap_cons_some hu]
      exact .cons ru (Vals.pick r L)
    | none =>
      have hl := r.length
      have hu : its[j]? = none := by
        rw [List.getElem?_eq_none_iff] at e ⊢
        omega
      rw [List.filterMap_cons_none e, List.filterMap_cons_none hu]
      exact Vals.pick r L
theorem pickV_length (xs : List V) (lo hi st : Option Int) : (pickV xs lo hi st).length ≤ xs.length := by
  have h := slicePick_size_le ((List.replicate xs.length Value.none).toArray) lo hi st
  unfold slicePick at h
  rw [List.size_toArray, List.size_toArray, List.length_replicate] at h
  refine Nat.le_trans ?_ h
  unfold pickV
  generalize sliceRange _ _ _ = L
  induction L with
  | nil => exact Nat.le_refl _
  | cons j L ih =>
    by_cases hj : j < xs.length
    · rw [List.filterMap_cons_some (List.getElem?_eq_getElem hj), List.filterMap_cons_some (b := Value.none) (by simp [hj])]
      exact Nat.succ_le_succ ih
    · rw [List.filterMap_cons_none (List.getElem?_eq_none_iff.mpr (by omega)), List.filterMap_cons_none (by simp; omega)]
      exact ih
section
variable {X : Cx} {e : Expr} {lo hi : Option Expr} {st : Expr} {p2 pos : Pos} {te : TE} {tl th ts : TO}
def tSl3 (K : PySem.W.Frag) (te : TE) (tl th ts : TO) : TE := fun σ H Q => te σ H fun x H1 => tl σ H1 fun l H2 => th σ H2 fun u H3 => ts σ H3 fun c H4 => ∃ a xs, x = .ref a ∧ SqL K H4 a xs ∧ c ≠ some 0 ∧ ∀ p, H4 p = none → Q (.ref p) (upd H4 p (.lst (pickV xs l u c)))
theorem pe_slice3 (he : PE X e te) (hl : PO X lo tl) (hu : PO X hi th) (hs : PO X (some st) ts) : PE X (.Subscript e (.Slice lo hi (some st) p2) pos) (tSl3 X.K te tl th ts) := by
  intro pins s σ H Q I h
  refine Subscript_ (thn (he pins s σ H _ I h) fun v s1 ⟨x, H1, I1, r1, q1⟩ => ?_)
  refine wpAny_Slice (thn (hl pins s1 σ H1 _ I1 q1) fun vl s2 ⟨l, H2, I2, pl, q2⟩ => thn (hu pins s2 σ H2 _ I2 q2) fun vu s3 ⟨u, H3, I3, pu, q3⟩ => thn (hs pins s3 σ H3 _ I3 q3) fun vs s4 ⟨c, H4, I4, pc, q4⟩ => ?_)
  obtain ⟨a, xs, rfl, hx, hc0, q⟩ := q4
  cases r1
  have I5 : Inv X pins σ H4 { s4 with heap := s4.heap.push { cls := .type "slice", data := .fields #[vl, vu, vs] } } := I4.kept (t' := s4.toks) fun b ob q => Heap.get?_push_of_some _ q
  obtain ⟨its, r, ht, hz⟩ := I5.list hx
  have hlen := r.length
  show wpAny (model X.prog X.w) X.A (subscriptTail e (.Slice lo hi (some st) p2) (.ref a) (.ref s4.heap.objs.size)) (EP X pins σ Q) X.xe { s4 with heap := s4.heap.push { cls := .type "slice", data := .fields #[vl, vu, vs] } }
  refine tail_any (ops := [.ref a, .ref s4.heap.objs.size]) ht.isList.typeIs slot_list_getitem.lookup ?_ (by with_unfolding_all rfl)
  refine wpAny_getItem_list_slice ht.isList (Heap.IsSliceOf.new ..) pl pu pc hc0 ?_ (by rw [List.size_toArray] <;> omega)
  refine ⟨.ref _, _, I5.laid (t' := s4.toks) (o := .lst (pickV xs l u c)) (fun b ob q => Heap.get?_push_of_some _ q) (Nat.le_refl _) ?_, rfl, q _ (I5.hok.fresh (Nat.le_refl _))⟩
  refine ⟨Nat.le_trans (pickV_length xs l u c) hz, _, 0, r.pick _, ?_⟩
  rw [show (slicePick its.toArray l u c) = ((sliceRange (sliceBounds l u c xs.length).1 (sliceBounds l u c xs.length).2.1 (sliceBounds l u c xs.length).2.2).filterMap (its[·]?)).toArray by unfold slicePick; rw [List.size_toArray, hlen]; simp]
  exact Heap.get?_push_size _ rfl
end
end L2
namespace L2
open PySem PySem.Spec PyProof.Rows
end L2
namespace Lib
open PySem L2 Fr Op
end Lib
namespace Lib
open PySem L2 Fr Op
end Lib
namespace Lib
open PySem L2 Fr Op
end Lib
namespace Lib
open PySem L2 Fr Op
end Lib
namespace Lib
open PySem L2 Fr Op
end Lib
namespace Lib
open PySem L2 Fr Op
end Lib
namespace L2
open PySem PySem.Spec PyProof.Rows PySem.Builtin
set_option maxHeartbeats 4000000 in
theorem extend_rev {prog : Program} {w : World} {A : Around} {s : Shared} {R : PySem.Result → Shared → Prop} {it : Addr} {fp wr : List Addr} {G : Array GenState → Array GenState → Prop} {n : Nat} {P : Nat → Value → Prop} {St : Nat → Shared → Prop}
    (W : WalksS prog w A.in1 it fp wr G n P St) (ht : ∀ i s, St i s → s.TypeIs (.ref it) "list_reverseiterator") (S : Addr) (res : Value) (c : Nat) (st1 : St 0 s) (z1 : S ∉ fp) (hm : it ∈ fp)
    (new1 : s.heap.get? S = some { cls := .type "list", data := .seq #[] c }) (hR : ∀ s' acc' c', Moved (S :: wr) G s s' → s'.heap.get? S = some { cls := .type "list", data := .seq acc' c' } → ItemsOf P acc' n → R (.ok (.ret res)) s') (hn : n ≤ sizeLine) :
    wpAny (model prog w) A.in1 (Builtin.List.listExtendWith (.ref S) (.ref it) res) (fun fin s' => match fin with | .done f => R (.ok f) s' | .again c' => c'.quiet = true ∧ codeAny (model prog w) A c' R s') (fun e s' => R (.error e) s') s := by
  have z2 : S ≠ it := fun e => z1 (by rw [e]; exact hm)
  have nolen : typeLookup (.type "list_reverseiterator") "__len__" = pure none := by
    rw [typeLookup_type, builtinLookup_eq_fast]
    kernel_rfl
  have hint : typeLookup (.type "list_reverseiterator") "__length_hint__" = pure (some (.builtin "list_reverseiterator.__length_hint__")) := by
    rw [typeLookup_type, builtinLookup_eq_fast]
    kernel_rfl
  have same : Builtin.List.listSameRef (.ref S) (.ref it) = false := by
    unfold Builtin.List.listSameRef
    simp [z2]
  unfold Builtin.List.listExtendWith
  refine wpAny_bind (wpAny_typeOf (ht 0 _ st1) ?_)
  rw [if_neg (by rw [same]; decide)]
  refine wpAny_bind (W.self 0 _ _ _ st1 (wpAny_bind (wpAny_holding ?_)))
  unfold Builtin.List.listLengthHint
  refine wpAny_bind (wpAny_specialOf (ht 0 _ st1) nolen ?_)
  show wpAny _ A.in1 (specialOf (.ref it) "__length_hint__" >>= _) _ _ _
  refine wpAny_bind (wpAny_specialOf (ht 0 _ st1) hint ?_)
  generalize hy : ("list_reverseiterator.__length_hint__" : String) = y
  wp_delta
  rw [show splitId y = some ("list_reverseiterator", "__length_hint__") from by rw [← hy]; decide +kernel]
  subst hy
  refine wpAny_bind (wpAny_isInstance (b := true) (ht 0 _ st1) (by rw [isSubtype_type]; kernel_rfl) (wpAny_pure ?_))
  rw [if_neg (by decide)]
  exact wpAny_pure ⟨plainId_quiet PySem.F.plain_extend_loop _, codeAny_extend_loopS W hn _ z1 _ n 0 _ _ _ rfl (Nat.zero_le _) st1 new1 (ItemsOf.nil P) fun s' acc' c' mv ns items => hR s' acc' c' mv ns items⟩
theorem init_rev {prog : Program} {w : World} {A : Around} {s : Shared} {R : PySem.Result → Shared → Prop} {it : Addr} {fp wr : List Addr} {G : Array GenState → Array GenState → Prop} {n : Nat} {P : Nat → Value → Prop} {St : Nat → Shared → Prop}
    (W : WalksS prog w A.in1 it fp wr G n P St) (ht : ∀ i s, St i s → s.TypeIs (.ref it) "list_reverseiterator") (S : Addr) (st1 : St 0 s) (z1 : S ∉ fp) (hm : it ∈ fp)
    (hS : s.heap.get? S = some { cls := .type "list", data := .seq #[] }) (hR : ∀ s' acc' c', Moved (S :: wr) G s s' → s'.heap.get? S = some { cls := .type "list", data := .seq acc' c' } → ItemsOf P acc' n → R (.ok (.ret .none)) s') (hn : n ≤ sizeLine) :
    wpAny (model prog w) A.in1 (Builtin.«list.__init__» ⟨[.ref S, .ref it], []⟩) (fun fin s' => match fin with | .done f => R (.ok f) s' | .again c' => c'.quiet = true ∧ codeAny (model prog w) A c' R s') (fun e s' => R (.error e) s') s := by
  have hS₂ := Heap.get?_update_self (Obj.mapSeq fun _ => #[]) hS rfl
  have oth : ∀ b o, b ≠ S → s.heap.get? b = some o → (s.heap.update S (Obj.mapSeq fun _ => #[])).get? b = some o := fun b o hb e => (Heap.get?_update_other s.heap (Obj.mapSeq fun _ => #[]) (Ne.symm hb)).trans e
  exact id (wpAny_bind (id (wpAny_bind (wpAny_seqItems hS rfl (wpAny_pure (id (wpAny_bind (wpAny_updateSeq hS rfl (wpAny_bind (wpAny_letGo (extend_rev W ht S .none _
    (W.frame 0 s (s.heap.update S (Obj.mapSeq fun _ => #[])) s.toks st1 (Nat.le_refl _) fun b hb o e => oth b o (fun h => z1 (h ▸ hb)) e) z1 hm hS₂
    (fun s' acc' c' mv hS' hacc => hR s' acc' c' (Moved.trans W.gtrans (Moved.then_heap (Moved.refl W.grefl) (Nat.le_refl _) fun b o hb e => oth b o (fun h => hb (h ▸ List.mem_cons_self)) e) mv) hS' hacc) hn))) (by decide) (by decide)))))))))
theorem call_list_rev {prog : Program} {w : World} {A : Around} {E : Value → Shared → Prop} {s : Shared} {it : Addr} {fp wr : List Addr} {G : Array GenState → Array GenState → Prop} {n : Nat} {P : Nat → Value → Prop} {St : Nat → Shared → Prop} {Q : Value → Shared → Prop}
    (W : WalksS prog w A.in1.in1 it fp wr G n P St) (ht : ∀ i s, St i s → s.TypeIs (.ref it) "list_reverseiterator") (h0 : St 0 s) (hf : ∀ b ∈ fp, b < s.heap.objs.size) (hm : it ∈ fp)
    (hQ : ∀ s' acc' c', Moved (s.heap.objs.size :: wr) G { s with heap := s.heap.push { cls := .type "list", data := .seq #[] } } s' → s'.heap.get? s.heap.objs.size = some { cls := .type "list", data := .seq acc' c' } → ItemsOf P acc' n → Q (.ref s.heap.objs.size) s') (hn : n ≤ sizeLine) :
    wpAny (model prog w) A (call (.type "list") [.ref it]) Q E s := by
  have hSf : s.heap.objs.size ∉ fp := fun z => Nat.lt_irrefl _ (hf _ z)
  refine callType_codes (Q₁ := fun obj s₁ => obj = .ref s.heap.objs.size ∧ s₁ = { s with heap := s.heap.push { cls := .type "list", data := .seq #[] } }) PySem.F.called_list (PySem.F.typeCall_list_1 (.ref it)) PySem.F.entry_list_init (code_list_new (.ref it) ⟨rfl, rfl⟩) fun obj s₁ h₁ => ?_
  obtain ⟨e1, e2⟩ := h₁
  subst e1 e2
  have hS : (s.heap.push { cls := .type "list", data := .seq #[] }).get? s.heap.objs.size = some { cls := .type "list", data := .seq #[] } := Heap.get?_push_size s.heap rfl
  exact ⟨⟨_, hS, rfl⟩, PySem.F.args_list_init_2 _ _, init_rev W ht s.heap.objs.size (W.frame 0 s (s.heap.push { cls := .type "list", data := .seq #[] }) s.toks h0 (Nat.le_refl _) fun b _ o e => Heap.get?_push_of_some _ e) hSf hm hS (fun s' acc' c' mv hS' hacc => ⟨rfl, hQ s' acc' c' mv hS' hacc⟩) hn⟩
theorem acc_back {items acc : Array Value} (ia : ItemsOf (fun i v => items[items.size - 1 - i]? = some v) acc items.size) : acc.toList = items.toList.reverse := by
  have hl : acc.size = items.size := ia.1
  apply List.ext_getElem?
  intro i
  by_cases hi : i < items.size
  · have e1 := ia.2 i acc[i] (Array.getElem?_eq_getElem (by omega))
    rw [List.getElem?_reverse (by rw [Array.length_toList]; omega), Array.length_toList, Array.getElem?_toList, Array.getElem?_toList, e1, Array.getElem?_eq_getElem (by omega)]
  · rw [List.getElem?_eq_none (by rw [Array.length_toList]; omega), List.getElem?_eq_none (by rw [List.length_reverse, Array.length_toList]; omega)]
section
variable {X : Cx} {xs : Expr} {tx : TE} {p0 p1 p2 pos : Pos}
theorem pe_listrev (hc : X.calm = true) (hx : PE X xs tx) (hg0 : Gl X "list") (hm0 : X.mg "list" = none) (hg : Gl X "reversed") (hm : X.mg "reversed" = none)
    (hs : starEach [.Call (.Name "reversed" p1) [xs] [] p2] X.env = [(false, eval (.Call (.Name "reversed" p1) [xs] [] p2) X.env)] := by rfl)
    (he : starEach [xs] X.env = [(false, eval xs X.env)] := by rfl) :
    PE X (.Call (.Name "list" p0) [.Call (.Name "reversed" p1) [xs] [] p2] [] pos)
      (fun σ H Q => tx σ H fun v H1 => ∃ (l : Addr) (ys : List V), v = .ref l ∧ SqL X.K H1 l ys ∧ ∀ r, H1 r = none → Q (.ref r) (upd H1 r (.lst ys.reverse))) := by
  intro pins s σ H Q I h
  refine wpAny_Call_Name_kw (ld_blt I hg0 hm0 bt_list ?_)
  refine PyProof.Rows.callWith_type1 ?_ hs (by rfl)
  rw [hs]
  show wpAny _ _ (spliced ((false, eval (.Call (.Name "reversed" p1) [xs] [] p2) X.env) :: [])) _ _ s
  refine Calls.spliced_cons ?_
  refine wpAny_Call_Name_kw (ld_blt I hg hm bt_reversed ?_)
  refine PyProof.Rows.callWith_type1 ?_ he (by rfl)
  refine thn ((pa_cons hx pa_nil he) p2 pins _ σ H (fun vs H1 => match vs with | [v] => ∃ (l : Addr) (ys : List V), v = .ref l ∧ SqL X.K H1 l ys ∧ ∀ r, H1 r = none → Q (.ref r) (upd H1 r (.lst ys.reverse)) | _ => False) I h) fun us s1 ⟨vs, H1, I1, r1, q⟩ => ?_
  match vs, r1, q with
  | [v], r1, ⟨l, ys, e, hq, q⟩ =>
    subst e
    obtain ⟨u, rfl, ru⟩ := vals1 r1
    cases ru
    obtain ⟨its, rv, pl, hz⟩ := I1.list hq
    refine call_reversed_list pl.isList (Calls.spliced_nil ?_)
    have hl := pl.isList
    have hlt : l < s1.heap.objs.size := by
      obtain ⟨o, e, _⟩ := hl
      exact Heap.lt_size e
    have hh : X.A.in1.in1.handled = none := I1.ok.hd hc
    have it0 : (s1.heap.push (revObj l ((its.toArray.size : Int) - 1))).IsRevIter s1.heap.objs.size l ((its.toArray.size : Int) - 1) := ⟨_, Heap.get?_push_size _ rfl, rfl, rfl⟩
    have st0 : 0 ≤ its.toArray.size ∧ (s1.heap.push (revObj l ((its.toArray.size : Int) - 1))).IsRevIter s1.heap.objs.size l ((its.toArray.size : Int) - 1 - ((0 : Nat) : Int)) ∧ (s1.heap.push (revObj l ((its.toArray.size : Int) - 1))).IsList l its.toArray := ⟨Nat.zero_le _, by simpa using it0, hl.push _⟩
    have W := (Walks.listRev (prog := X.prog) (w := X.w) hh s1.heap.objs.size l (Nat.ne_of_lt hlt) its.toArray).toS
    refine call_list_rev W (fun i s2 x => x.2.1.typeIs) st0 ?_ (by simp) (fun s' acc c' mv ns ia => ?_) ?_
    · intro b hb
      show b < (s1.heap.push _).objs.size
      rw [Heap.size_push]
      rcases List.mem_cons.mp hb with rfl | hb
      · exact Nat.lt_succ_self _
      · rw [List.mem_singleton.mp hb]
        exact Nat.lt_succ_of_lt hlt
    · have hacc := acc_back ia
      have es : s' = { s1 with heap := s'.heap, toks := s'.toks } := by
        obtain ⟨h', g', d', k', o'⟩ := s'
        obtain ⟨h2, g2, d2, k2, o2⟩ := s1
        have a1 := mv.gens
        have a2 := mv.drawn
        have a3 := mv.os
        simp only at a1 a2 a3
        subst a1 a2 a3
        rfl
      have eS : (s1.heap.push (revObj l ((its.toArray.size : Int) - 1))).objs.size = s1.heap.objs.size + 1 := Heap.size_push _ _
      have ns : s'.heap.get? (s1.heap.objs.size + 1) = some { cls := .type "list", data := .seq acc c' } := by rw [← eS]; exact ns
      have kp : ∀ b o, s1.heap.get? b = some o → s'.heap.get? b = some o := fun b o e => by
        have lt := Heap.lt_size e
        refine mv.heap b o ?_ (Heap.get?_push_of_some _ (Heap.get?_push_of_some _ e))
        intro hb
        rcases List.mem_cons.mp hb with z | z
        · have z : b = s1.heap.objs.size + 1 := z.trans eS
          rw [z] at lt
          exact Nat.not_succ_lt_self lt
        · have z : b = s1.heap.objs.size := List.mem_singleton.mp z
          rw [z] at lt
          exact Nat.lt_irrefl _ lt
      have rr : Vals ys.reverse acc.toList := by rw [hacc]; exact rv.reverse
      rw [es]
      show EP X pins σ Q (.ref (s1.heap.push (revObj l ((its.toArray.size : Int) - 1))).objs.size) _
      rw [eS]
      exact ⟨.ref (s1.heap.objs.size + 1), _, I1.laid (t' := s'.toks) kp (Nat.le_succ _) (show ObjOk X.prog X.w _ s'.heap _ (.lst ys.reverse) from ⟨by rw [List.length_reverse]; exact hz, acc.toList, c', rr, by rw [Array.toArray_toList]; exact ns⟩), rfl, q _ (I1.hok.fresh (Nat.le_succ _))⟩
    · have := rv.length
      rw [List.size_toArray]
      omega
end
end L2
namespace Lib
open PySem L2 Fr Op
theorem dvs_rev {K : PySem.W.Frag} {H : Hp} : ∀ {xs : List V} {ds : List PyData}, DVs K H xs ds → DVs K H xs.reverse ds.reverse
  | _, _, .nil => .nil
  | _, _, .cons h1 h2 => by rw [List.reverse_cons, List.reverse_cons]; exact (dvs_rev h2).append (.cons h1 .nil)
end Lib
namespace Lib
open PySem L2 Fr Op
end Lib
namespace Lib
open PySem L2 Fr Op
end Lib
namespace Lib
open PySem L2 Fr Op
end Lib
namespace Lib
open PySem L2 Fr Op
end Lib
namespace L2
open PySem PySem.Spec PyProof.Rows PySem.Builtin
end L2
namespace L2
open PySem PySem.Spec PyProof.Rows PySem.Builtin
end L2
namespace L2
open PySem PySem.Spec PyProof.Rows PySem.Builtin
end L2
namespace L2
open PySem PySem.Spec PyProof.Rows
end L2
namespace Lib
open PySem L2 Fr Op
end Lib
namespace Op
open Fr
end Op
namespace Lib
open PySem L2 Fr Op
end Lib
namespace L2
open PySem PySem.Spec PyProof.Rows PySem.Builtin
end L2
namespace L2
open PySem PySem.Spec PyProof.Rows PySem.Builtin
end L2
namespace Op
open Fr
end Op
namespace Lib
open PySem L2 Fr Op
theorem SD.same {H0 H H' : Hp} {d : Addr} (s0 : Same H0 H) (hd : H0 d = none) (s : SD d H H') : Same H0 H' := fun b o e => s b o (fun z => by rw [z, hd] at e; cases e) (s0 _ _ e)
end Lib
namespace Lib
open PySem L2 Fr Op
end Lib
namespace L2
open PySem PySem.Spec PyProof.Rows PySem.Builtin
end L2
namespace Op
open Fr
end Op
namespace Lib
open PySem L2 Fr Op
end Lib
namespace Op
open Fr Lib
end Op
namespace Lib
open PySem L2 Fr Op
end Lib
namespace Lib
open PySem L2 Fr Op
end Lib
namespace L2
open PySem PySem.Spec PyProof.Rows PySem.Builtin
end L2
namespace Lib
open PySem L2 Fr Op
def rep (k : Nat) (ps : List Pc) : List Pc := (List.replicate k ps).flatten
theorem rep_succ (k : Nat) (ps : List Pc) : rep (k + 1) ps = ps ++ rep k ps := by
  unfold rep
  rw [List.replicate_succ, List.flatten_cons]
theorem dvs_rep {K : PySem.W.Frag} {H : Hp} {xs : List V} {ps : List Pc} (h : DVs K H xs (ps.map pcD)) : ∀ k, DVs K H (List.replicate k xs).flatten ((rep k ps).map pcD)
  | 0 => .nil
  | k + 1 => by
    rw [rep_succ, List.replicate_succ, List.flatten_cons, List.map_append]
    exact h.append (dvs_rep h k)
end Lib
namespace L2
open PySem PySem.Spec PyProof.Rows
end L2
namespace Lib
open PySem L2 Fr Op
end Lib
namespace L2
open PySem PySem.Spec PyProof.Rows
end L2
namespace Lib
open PySem L2 Fr Op
end Lib
namespace L2
open PySem PySem.Spec PyProof.Rows
abbrev TBd := XK → (Hp → Prop) → St → Hp → Prop
def PTB (X : Cx) (body : List Stmt) (t : TBd) : Prop := ∀ (pins : List (Addr × Obj)) (s : Shared) (σ : St) (H : Hp) (E : XK) (k : Hp → Prop), Inv X pins σ H s → t E k σ H →
  wpAny (model X.prog X.w) X.A (execs body X.env) (fun f s1 => f = .next ∧ ∃ H2, Inv X pins σ H2 s1 ∧ k H2) (fun e s' => ∃ H1 s1, Inv X pins σ H1 s1 ∧ CX1 X.prog X.w X.stack H1 s1 E e s') s
end L2
namespace L2
open PySem PySem.Spec PyProof.Rows PySem.Builtin
open PySem.AutoSeq1 (wpAny_loadPart')
end L2
namespace L2
open PySem PySem.Spec PySem.Calls PyProof.Rows PySem.W Builtin Builtin.ObjectAttr
end L2
namespace L2
open PySem PySem.Spec PySem.Calls PyProof.Rows PySem.W Builtin Builtin.ObjectAttr
end L2
namespace L2
open PySem PySem.Spec PySem.Calls PyProof.Rows PySem.W Builtin Builtin.ObjectAttr
end L2
namespace L2
open PySem PySem.Spec PySem.Calls PyProof.Rows PySem.W
end L2
namespace Lib
open PySem L2 Fr Op
end Lib
namespace Lib
open PySem L2 Fr Op
end Lib
namespace L2
open PySem PySem.Spec PyProof.Rows
end L2
namespace L2
open PySem PySem.Spec PyProof.Rows PySem.Builtin PySem.Builtin.Str
end L2
namespace Lib
open PySem L2 Fr Op
end Lib
namespace L2
open PySem PySem.Spec PyProof.Rows PySem.Builtin PySem.SeqAt
end L2
namespace Op
open Fr
end Op
namespace Lib
open PySem L2 Fr Op
end Lib
namespace L2
open PySem PySem.Spec PyProof.Rows PySem.Builtin PySem.Builtin.Str
theorem strs_of : ∀ {zs : List Str} {its : List Value}, Vals (zs.map V.str) its → ∃ l : List (Str × Tok), strValues l = its ∧ l.map (·.1) = zs
  | [], _, .nil => ⟨[], rfl, rfl⟩
  | z :: zs, _, .cons h r => by
    obtain ⟨t, rfl⟩ := h
    obtain ⟨l, h1, h2⟩ := strs_of r
    exact ⟨(z, t) :: l, by show _ :: strValues l = _; rw [h1], by show z :: _ = _; rw [h2]⟩
def rJoin : V → List V → Hp → VK → Prop := fun x vs H Q => ∃ (sep : Str) (l : Addr) (zs : List Str), x = .str sep ∧ vs = [.ref l] ∧ H l = some (.lst (zs.map V.str)) ∧ JoinOk sep zs = true ∧ Q (.str (Txt.join sep zs)) H
theorem mt_join {X : Cx} : MtM X "str.join" rJoin := by
  intro pins s σ H x vs v us Q I rx rv h
  obtain ⟨sep, l, zs, rfl, rfl, hH, ok, q⟩ := h
  obtain ⟨t, rfl⟩ := rx
  obtain ⟨u, rfl, ru⟩ := rv.one
  cases ru
  obtain ⟨z, its, n, r, hl, e⟩ := I.lstM hH
  obtain ⟨ps, rfl, e2⟩ := strs_of r
  exact SC.join ⟨_, e, rfl, _, rfl⟩ e2 ok fun t' k => ⟨.str _, H, I.tok _, ⟨t', rfl⟩, q⟩
end L2
namespace L2
open PySem PySem.Spec PyProof.Rows PySem.Builtin
theorem MtFn.mcR {P : Program} {w : World} {K : PySem.W.Frag} {mg : Str → Option Value} {base : Heap} {C : Addr} {m qual : Str} {st : Stmt} {N ps : List Str} {k : Nat} {sp : Sp} (T : MtFn K C m qual st) (S : FnScope N ps (defScope st))
    (hb : ∀ (kV doc pm : Value) (an : Option Addr) (cdv ct : Value) (us : List Value), us.length = ps.length → bindArgs (PySem.W.fnOf m qual (defArgs st) (defBody st) (defScope st) .none kV doc pm an cdv ct) ⟨us, []⟩ = pure (ps.zip us))
    (len : ∀ vs H Q E, sp vs H Q E → vs.length = ps.length)
    (hbody : ∀ (f : Addr) (cdv : Value) (A : Around) (outer : List Env) (s : Shared) (H : Hp) (vs : List V) (Q : VK) (E : XK), RoomB true k (A.deeper (envOfC qual (defScope st) s.heap.objs.size f cdv)) → sp vs H Q E →
      ∃ t, PSs (cxB true P w K mg base N qual (defScope st) f cdv A outer s H E) (defBody st) t ∧ t { nx := fun _ H' => Q .non H', rt := Q } (start N vs) H) : MC P w K mg base (k + 1) C m ps sp := by
  obtain ⟨f, fd, F, hm⟩ := T.ex
  obtain ⟨oc, od, kV, doc, pm, an, cdv, ct, osl, rfl, l, cd⟩ := id F.ex
  exact ⟨⟨f, _, fnB_of l cd S len fun A outer s H vs Q E hr h => hbody f cdv A outer s H vs Q E hr h, hm, F.binds hb⟩, T.cl⟩
section
variable {X : Cx} {k : Nat} {m : Str} {pos apos cpos epos : Pos} {e o : Expr} {es : List Expr} {ta : TE} {t : TA}
theorem ptb_meth {pl : Sem Bool} (he : PE X.nox o ta) (hr : RoomB true k X.A) (ha : PA X.nox (e :: es) t)
    (hst : starEach (e :: es) X.env = (false, eval e X.env) :: starEach es X.env := by rfl) (hpl : (backTo cpos (starEach es X.env)).any (·.1) = false := by rfl) (hsw : swapsWith (.Call (.Attribute o m apos) (e :: es) [] cpos) none epos.line X.env = pure false := by rfl)
    (ht : eval (.Call (.Attribute o m apos) (e :: es) [] cpos) X.env = (do
      let ov ← eval o X.env
      standAt apos.atName
      let (f, first) ← holding [ov] (getMethod ov m pl)
      callWith cpos f first (backTo cpos (starEach (e :: es) X.env)) (backToKw cpos (keywordEach [] X.env))) := by rfl) :
    PTB X [.Expr (.Call (.Attribute o m apos) (e :: es) [] cpos) epos] (fun E k' σ H => ta σ H fun x H1 => ∃ a C dx fs ps sp, x = .ref a ∧ H1 a = some (.ins C dx fs) ∧ fs.lookup m = none ∧
      MC X.prog X.w X.K X.mg X.base k C m ps sp ∧ t σ H1 fun vs H2 => sp (x :: vs) H2 (fun _ H3 => k' H3) E) := by
  intro pins s σ H E k' I h
  refine wpAny_execs_cons (wpAny_Expr_any ?_ I.quiet hsw)
  refine PySem.W.methodCall_KW (pl := pl) (wpAny_mono (he pins s σ H _ (I.wish _) h) (fun u s1 hu => ?_) (fun _ _ z => z.elim)) ht
  obtain ⟨x, H1, I1, rx, a, C, dx, fs, ps, sp, ex, ea, l, M, q⟩ := hu
  have I1 := I1.unwish
  subst ex
  obtain rfl : u = Value.ref a := rx
  obtain ⟨f, fd, F, hm, hb⟩ := M.ex
  refine getmeth_ok I1 ea M.cl hm l ?_
  refine PySem.W.callWith_K (first := [.ref a]) (h₀ := X.base) I.ok.mod.kin hm.kp (thn (PA.any ha cpos I1 q) fun us s2 ⟨vs, H2, I2, r, q2⟩ => ⟨I2.kIn, ?_⟩) hst hpl
  exact thn (run_fnB (us := .ref a :: us) (vs := .ref a :: vs) F hr hb I2 (.cons rfl r) (by rw [List.append_nil]; exact q2) fun e s' hx => ⟨H2, s2, I2, hx⟩) fun v s3 ⟨v', H3, I3, r3, q3⟩ => wpAny_execs_nil ⟨rfl, H3, I3, q3⟩
end
end L2
namespace Lib
open PySem L2 Fr Op
def letS : Str := "abcdefghijklmnopqrstuvwxyz"
def inLet (z : Str) : Bool := !(PySem.Builtin.Str.occurrences letS z 0 letS.length 1).isEmpty
def nameB (z : Str) : Bool := (decide (1 ≤ z.length) && decide (z.length ≤ 8)) && (PyProof.Rows.signs z).all inLet
def nameD : PyData → Bool
  | .str z => nameB z
  | _ => false
theorem nameD_no {d : PyData} (h : isStrD d = false) : nameD d = false := by
  cases d <;> first | rfl | cases h
def StrOk (d : PyData) : Prop := ∀ z, d = .str z → z.length ≤ sizeLine
def spName (K : PySem.W.Frag) : Sp := fun vs H Q _ => ∃ v d, vs = [v] ∧ DV K H v d ∧ StrOk d ∧ ∀ H', Same H H' → Q (.bl (nameD d)) H'
theorem nameB_le {z : Str} (h : nameB z = true) : z.length ≤ 8 := by
  unfold nameB at h
  rw [Bool.and_eq_true, Bool.and_eq_true] at h
  exact of_decide_eq_true h.1.2
end Lib
namespace Lib
open PySem L2 Fr Op
end Lib
namespace L2
open PySem PySem.Spec PyProof.Rows PySem.Builtin
end L2
namespace L2
open PySem PySem.Spec PyProof.Rows
end L2
namespace Lib
open PySem L2 Fr Op
theorem noL_pc' (p : Pc) : noL (pcD p) = true := by cases p <;> rfl
structure Bx (K : PySem.W.Frag) (H1 : Hp) (p : Addr) (ps : List Pc) (Hx : Hp) : Prop where
  s : Same H1 Hx
  n : H1 p = none
  ex : ∃ xs, Hx p = some (.lst xs) ∧ DVs K Hx xs (ps.map pcD)
theorem same_but {H1 Hx : Hp} {p : Addr} (s : Same H1 Hx) (n : H1 p = none) (o : HO) : Same H1 (upd Hx p o) := fun b u e => by
  rw [upd_ne (ne_of_none e n)]
  exact s _ _ e
theorem Bx.more {K : PySem.W.Frag} {H1 Hx : Hp} {p : Addr} {ps qs : List Pc} {xs zs : List V} (s : Same H1 Hx) (n : H1 p = none) (h1 : Hx p = some (.lst xs)) (h2 : DVs K Hx xs (ps.map pcD)) (h3 : DVs K Hx zs (qs.map pcD)) : Bx K H1 p (ps ++ qs) (upd Hx p (.lst (xs ++ zs))) := by
  refine ⟨same_but s n _, n, xs ++ zs, upd_same, ?_⟩
  rw [List.map_append]
  exact dvs_keepT (sameT_upd h1 _) (by rw [← List.map_append]; exact noLs_map noL_pc' _) (h2.append h3)
end Lib
namespace Lib
open PySem L2 Fr Op
end Lib
namespace Lib
open PySem L2 Fr Op
theorem dvs_repF {K : PySem.W.Frag} {H : Hp} {ks : List V} {ds : List PyData} (h : DVs K H ks ds) : ∀ n, DVs K H (List.replicate n ks).flatten (List.replicate n ds).flatten
  | 0 => .nil
  | n + 1 => by
    rw [List.replicate_succ, List.replicate_succ, List.flatten_cons, List.flatten_cons]
    exact h.append (dvs_repF h n)
end Lib
namespace Lib
open PySem L2 Fr Op
end Lib
namespace L2
open PySem PySem.Spec PyProof.Rows
structure TopFnA (K : PySem.W.Frag) (mg : Str → Option Value) (x nm : Str) (st : Stmt) : Prop where
  ex : ∃ (f : Addr) (fd : FuncData), Fun K nm nm st f fd ∧ mg x = some (.ref f)
theorem topFnA_mk {K : PySem.W.Frag} {h : Heap} {mg : Str → Option Value} {x nm : Str} {st : Stmt} {f : Addr} {oc : Value} {od an : Option Addr} {sl : Array (Option Value)} {kV dc pm cd ct : Value} (X : K.In h) (G : h.Ns mainGlobals mg)
    (a : PySem.W.nsIn K mainGlobals x = some (some (.ref f))) (l : K.lookup f = some ⟨oc, od, .func (PySem.W.fnOf nm nm (defArgs st) (defBody st) (defScope st) .none kV dc pm an cd ct), sl⟩) (c : PySem.W.codeIn K cd nm = true) (k : PySem.W.keepIn K (.ref f) = true) : TopFnA K mg x nm st :=
  ⟨f, _, fun_mk l c k, PySem.W.mg_of X G a⟩
theorem TopFnA.calB {c : Bool} {P : Program} {w : World} {K : PySem.W.Frag} {mg : Str → Option Value} {base : Heap} {x nm : Str} {st : Stmt} {N ps : List Str} {k : Nat} {sp : Sp} (T : TopFnA K mg x nm st) (S : FnScope N ps (defScope st))
    (hb : ∀ (kV doc pm : Value) (an : Option Addr) (cdv ct : Value) (us : List Value), us.length = ps.length → bindArgs (PySem.W.fnOf nm nm (defArgs st) (defBody st) (defScope st) .none kV doc pm an cdv ct) ⟨us, []⟩ = pure (ps.zip us))
    (len : ∀ vs H Q E, sp vs H Q E → vs.length = ps.length)
    (hbody : ∀ (f : Addr) (cdv : Value) (A : Around) (outer : List Env) (s : Shared) (H : Hp) (vs : List V) (Q : VK) (E : XK), RoomB c k (A.deeper (envOfC nm (defScope st) s.heap.objs.size f cdv)) → sp vs H Q E →
      ∃ t, PSs (cxB c P w K mg base N nm (defScope st) f cdv A outer s H E) (defBody st) t ∧ t { nx := fun _ H' => Q .non H', rt := Q } (start N vs) H) : CalB P w K mg base c (k + 1) x ps sp := by
  obtain ⟨f, fd, F, hm⟩ := T.ex
  obtain ⟨oc, od, kV, doc, pm, an, cdv, ct, osl, rfl, l, cd⟩ := id F.ex
  exact ⟨f, _, fnB_of l cd S len (hbody f cdv), hm, F.kp, F.binds hb⟩
theorem TopFnA.calN {c : Bool} {P : Program} {w : World} {K : PySem.W.Frag} {mg : Str → Option Value} {base : Heap} {x nm : Str} {st : Stmt} {N ps : List Str} {k : Nat} {sp : Sp} (T : TopFnA K mg x nm st) (S : FnScope N ps (defScope st))
    (hb : ∀ (kV doc pm : Value) (an : Option Addr) (cdv ct : Value) (us : List Value), us.length = ps.length → bindArgs (PySem.W.fnOf nm nm (defArgs st) (defBody st) (defScope st) .none kV doc pm an cdv ct) ⟨us, []⟩ = pure (ps.zip us))
    (len : ∀ vs H Q E, sp vs H Q E → vs.length = ps.length)
    (hbody : ∀ (f : Addr) (cdv : Value) (A : Around) (outer : List Env) (s : Shared) (H : Hp) (vs : List V) (Q : VK) (E : XK), RoomB c k (A.deeper (envOfC nm (defScope st) s.heap.objs.size f cdv)) → sp vs H Q E →
      ∃ t, PSs (cxB c P w K mg base N nm (defScope st) f cdv A outer s H E).nox (defBody st) t ∧ t { nx := fun _ H' => Q .non H', rt := Q } (start N vs) H) : CalB P w K mg base c (k + 1) x ps sp :=
  T.calB S hb len fun f cdv A outer s H vs Q E hr h => by
    obtain ⟨t, h1, h2⟩ := hbody f cdv A outer s H vs Q E hr h
    exact ⟨t, h1.nox, h2⟩
abbrev spNot : Sp := fun _ _ _ _ => False
theorem TopFn.not {P : Program} {w : World} {K : PySem.W.Frag} {mg : Str → Option Value} {base : Heap} {x : Str} {st : Stmt} {N ps : List Str} {k : Nat} (T : TopFn K mg x st) (S : FnScope N ps (defScope st))
    (hb : ∀ (kV doc pm : Value) (an : Option Addr) (cdv ct : Value) (us : List Value), us.length = ps.length → bindArgs (PySem.W.fnOf x x (defArgs st) (defBody st) (defScope st) .none kV doc pm an cdv ct) ⟨us, []⟩ = pure (ps.zip us)) : CalB P w K mg base true (k + 1) x ps spNot :=
  T.calB S hb (fun _ _ _ _ h => h.elim) fun _ _ _ _ _ _ _ _ _ _ h => h.elim
section
variable {X : Cx} {c : Bool} {k : Nat} {ps : List Str} {sp : Sp} {x : Str} {p pos cpos rpos : Pos} {e : Expr} {es : List Expr} {t : TA} {h0 : ExceptHandler} {hs : List ExceptHandler}
theorem ps_tryRet (C : CalB X.prog X.w X.K X.mg X.base c k x ps sp) (hr : RoomB c k X.A) (ha : PA X.nox (e :: es) t) (hg : Gl X x := by rfl) (hdb : (x == ("__debug__" : Str)) = false := by decide)
    (he : starEach (e :: es) X.env = (false, eval e X.env) :: starEach es X.env := by rfl) (hpl : (backTo cpos (starEach es X.env)).any (·.1) = false := by rfl) :
    PS X (.Try [.Return (some (.Call (.Name x p) (e :: es) [] cpos)) rpos] (h0 :: hs) [] [] pos) (fun D σ H => t σ H fun vs H1 => sp (vs ++ []) H1 D.rt E0) := by
  obtain ⟨f, fd, F, hm, hk, hb⟩ := C.ex
  intro pins s σ H D I h
  refine wpAny_Try_except (wpAny_execs_cons (wpAny_Return_some (wpAny_Call_Name_kw (ld_glob I hg hm ?_ hdb))))
  refine PySem.W.callWith_K (h₀ := X.base) I.ok.mod.kin hk (thn (PA.any ha cpos I h) fun us s1 ⟨vs, H1, I1, r, q⟩ => ⟨I1.kIn, ?_⟩) he hpl
  refine thn (run_fnB F hr hb I1 r q fun e s' hx => ?_) fun v s2 ⟨v', H2, I2, r2, q2⟩ => ⟨v', σ, H2, I2, r2, q2⟩
  obtain ⟨_, _, _, _, _, _, _, _, _, _, _, _, z⟩ := hx
  exact z.elim
end
def rEnds : V → List V → Hp → VK → Prop := fun x vs H Q => ∃ i j, x = .str i ∧ vs = [.str j] ∧ Q (.bl (Txt.endswith i j)) H
theorem mt_endswith {X : Cx} : MtM X "str.endswith" rEnds := by
  intro pins s σ H x vs v us Q I rx rv h
  obtain ⟨i, j, rfl, rfl, q⟩ := h
  obtain ⟨t, rfl⟩ := rx
  obtain ⟨u, rfl, ru⟩ := rv.one
  obtain ⟨t', rfl⟩ := ru
  exact SC.endswith ⟨.bl _, H, I, rfl, q⟩
end L2
namespace L2
open PySem PySem.Spec PyProof.Rows PySem.Builtin PySem.Builtin.Str
end L2
namespace L2
open PySem PySem.Spec PyProof.Rows PySem.Builtin PySem.Builtin.Str
end L2
namespace Tx
open PySem PySem.NumText PySem.Builtin.Str
def dz (m : Nat) : List Nat := if m = 0 then [] else dg m
theorem digit_code : ∀ d : Nat, d < 10 → (Nat.digitChar d).toNat = 48 + d := by decide
theorem dz_step {m : Nat} (h : 0 < m) : dz m = dz (m / 10) ++ [48 + m % 10] := by
  unfold dz
  rw [if_neg (by omega)]
  by_cases hm : m < 10
  · rw [if_pos (by omega), dg, Nat.toDigits_of_lt_base hm]
    show [(Nat.digitChar m).toNat] = _
    rw [digit_code m hm, Nat.mod_eq_of_lt hm]
    rfl
  · rw [if_neg (by omega)]
    have h1 : m % 10 < 10 := Nat.mod_lt m (by decide)
    have t : Nat.toDigits 10 (m / 10) ++ Nat.toDigits 10 (m % 10) = Nat.toDigits 10 (10 * (m / 10) + m % 10) := Nat.toDigits_append_toDigits (by decide) (by omega) h1
    rw [Nat.div_add_mod] at t
    unfold dg
    rw [← t, List.map_append, Nat.toDigits_of_lt_base h1]
    show _ ++ [(Nat.digitChar (m % 10)).toNat] = _
    rw [digit_code _ h1]
theorem dz_pos {m : Nat} (h : 0 < m) : dz m = dg m := by
  unfold dz
  rw [if_neg (by omega)]
end Tx
namespace Lib
open PySem L2 Tx PySem.NumText
end Lib
namespace Lib
end Lib
namespace L2
open PySem PySem.Spec PyProof.Rows
section
variable {X : Cx}
theorem op_mul_str : OpR X (binaryOp .Mult) (fun x y H Q => ∃ z n, x = .str z ∧ y = .int n ∧ PySem.MulOk z n ∧ Q (.str (Txt.mul z n)) H) := by
  intro pins s σ H x y v u Q I rx ry h
  obtain ⟨z, n, rfl, rfl, hok, q⟩ := h
  obtain ⟨t, rfl⟩ := rx
  obtain ⟨t', rfl⟩ := ry
  exact SB.mul hok fun t' k => ⟨.str _, H, I.tok _, ⟨t', rfl⟩, q⟩
end
end L2
namespace Tx
open PySem PySem.NumText PySem.Builtin.Str
theorem sh_signs (q : Rat) : ∀ c ∈ sh q, (48 ≤ c ∧ c ≤ 57) ∨ c = 45 ∨ c = 47 := fun c hc => by
  unfold sh at hc
  rcases List.mem_append.mp hc with hc | hc
  · rcases List.mem_append.mp hc with hc | hc
    · split at hc
      · exact .inr (.inl (by simpa using hc))
      · cases hc
    · exact .inl (dg_digits _ _ hc)
  · split at hc
    · cases hc
    · rcases List.mem_cons.mp hc with rfl | hc
      · exact .inr (.inr rfl)
      · exact .inl (dg_digits _ _ hc)
theorem dg_inj {m n : Nat} (h : dg m = dg n) : m = n := by rw [← dg_val m, ← dg_val n, h]
end Tx
namespace Tx
open PySem PySem.NumText PySem.Builtin.Str
end Tx
namespace Lib
open PySem L2 Tx PySem.NumText
end Lib
namespace Lib
open PySem L2 Tx PySem.NumText
end Lib
namespace Tx
open PySem PySem.Spec PySem.Builtin PySem.Builtin.Str L2 Lib Op
theorem str_blank : PySem.Str.ofString " " = ⟨#[32]⟩ := by decide +kernel
theorem str_semi : PySem.Str.ofString ";" = ⟨#[59]⟩ := by decide +kernel
theorem ends_one (x : PySem.Str) (c : Nat) : Txt.endswith x ⟨#[c]⟩ = decide ((cl x).getLast? = some c) := by
  obtain ⟨⟨l⟩⟩ := x
  rcases List.eq_nil_or_concat l with rfl | ⟨r, a, e0⟩
  · rfl
  · have e1 : l = r ++ [a] := by rw [e0]; simp
    subst e1
    clear e0
    have hl : (r ++ [a]).toArray.size = r.length + 1 := by simp
    show (decide (0 + 1 ≤ (r ++ [a]).toArray.size) && ((r ++ [a]).toArray.extract ((r ++ [a]).toArray.size - 1) ((r ++ [a]).toArray.size - 1 + 1) == #[c])) = decide ((r ++ [a]).getLast? = some c)
    rw [hl, Nat.add_sub_cancel, List.getLast?_concat]
    by_cases h : a = c
    · subst h; simp
    · simp [h]
theorem fm_congr {f g : Nat → Option Nat} : ∀ {l : List Nat}, (∀ k ∈ l, f k = g k) → l.filterMap f = l.filterMap g
  | [], _ => rfl
  | a :: l, h => by
    rw [List.filterMap_cons, List.filterMap_cons, h a List.mem_cons_self, fm_congr fun k hk => h k (List.mem_cons_of_mem _ hk)]
theorem slice_init (x : PySem.Str) : cl (Txt.slice x none (some (-1))) = (cl x).dropLast := by
  obtain ⟨⟨l⟩⟩ := x
  rcases List.eq_nil_or_concat l with rfl | ⟨r, a, e0⟩
  · rfl
  · have e1 : l = r ++ [a] := by rw [e0]; simp
    subst e1
    clear e0
    have e : strSliceIndices none (some (-1)) 1 (r.length + 1) = List.range r.length := by
      unfold strSliceIndices sliceRange
      simp only [show (1 : Int) > 0 by decide, if_true]
      have h1 : max 0 (min (if (-1 : Int) < 0 then -1 + ((r.length + 1 : Nat) : Int) else -1) ((r.length + 1 : Nat) : Int)) = (r.length : Int) := by
        rw [if_pos (by decide)]
        omega
      rw [h1]
      have h2 : (if (0 : Int) < (r.length : Int) then ((r.length : Int) - 0 + 1 - 1) / 1 else 0).toNat = r.length := by
        split <;> simp <;> omega
      rw [h2]
      refine (List.map_congr_left fun k _ => ?_).trans (List.map_id _)
      simp
    have hl : (PySem.Str.mk (r ++ [a]).toArray).length = r.length + 1 := by
      show (r ++ [a]).toArray.size = _
      simp
    show cl (Txt.slice (PySem.Str.mk (r ++ [a]).toArray) none (some (-1))) = (r ++ [a]).dropLast
    unfold Txt.slice
    rw [hl, e]
    rw [if_neg (by simp)]
    show ((((List.range r.length)).filterMap (fun k => (r ++ [a]).toArray[k]?)).toArray).toList = _
    rw [List.toList_toArray, List.dropLast_concat]
    have e2 : (List.range r.length).filterMap (fun k => (r ++ [a]).toArray[k]?) = (List.range r.length).filterMap (fun k => r[k]?) := by
      refine fm_congr fun k hk => ?_
      have := List.mem_range.mp hk
      simp [List.getElem?_append_left this]
    rw [e2, pick_all]
def wd : Pc → PySem.Str
  | .gap _ => PySem.Str.ofString "gap"
  | .glass _ => PySem.Str.ofString "glass"
  | .stop _ _ => PySem.Str.ofString "stop"
def fracs : Pc → List Rat
  | .gap q => [q]
  | .glass q => [q]
  | .stop lo hi => [lo, hi]
def toks (p : Pc) : List PySem.Str := wd p :: (fracs p).map shS
def textP (p : Pc) : PySem.Str := Txt.join (PySem.Str.ofString " ") (toks p)
def textB (ps : List Pc) : PySem.Str := Txt.join (PySem.Str.ofString "; ") (ps.map textP)
theorem joinT (sep : PySem.Str) (l : List PySem.Str) : Txt.join sep l = PySem.Str.join sep l := StrLaws.glued_eq_join _ _
theorem sh_free (q : Rat) (c : Nat) (h : ¬ ((48 ≤ c ∧ c ≤ 57) ∨ c = 45 ∨ c = 47)) : c ∉ cl (shS q) := fun m => h (sh_signs q c (by rw [← cl_shS]; exact m))
theorem map_cl_inj : ∀ {a b : List PySem.Str}, a.map cl = b.map cl → a = b
  | [], [], _ => rfl
  | [], _ :: _, h => by cases h
  | _ :: _, [], h => by cases h
  | x :: a, y :: b, h => by
    rw [List.map_cons, List.map_cons] at h
    have h1 := List.cons.inj h
    rw [ext h1.1, map_cl_inj h1.2]
def wordF (w : PySem.Str) : List PySem.Str := if Txt.endswith w (PySem.Str.ofString ";") = true then [Txt.slice w none (some (-1)), PySem.Str.ofString ";"] else [w]
def wordsF (ws : List PySem.Str) : List PySem.Str := (ws.map wordF).flatten
theorem wordF_no {w : PySem.Str} (h : 59 ∉ cl w) : wordF w = [w] := by
  unfold wordF
  rw [if_neg]
  rw [str_semi, ends_one, decide_eq_true_eq]
  intro e
  exact h (List.mem_of_getLast? e)
theorem wordF_semi (w : PySem.Str) : wordF (w ++ ⟨#[59]⟩) = [w, PySem.Str.ofString ";"] := by
  have e : cl (w ++ ⟨#[59]⟩) = cl w ++ [59] := cl_app _ _
  unfold wordF
  rw [if_pos]
  · have : Txt.slice (w ++ ⟨#[59]⟩) none (some (-1)) = w := ext (by rw [slice_init, e, List.dropLast_concat])
    rw [this]
  · rw [str_semi, ends_one, e, List.getLast?_concat]
    exact decide_eq_true rfl
end Tx
namespace Lib
open PySem L2 Fr Op Tx
abbrev RdO (C dx wl : Addr) (i : Nat) : HO := .ins C dx [("words", .ref wl), ("place", .int (i : Int))]
structure RdAt (C a dx wl : Addr) (ws : List Str) (i : Nat) (H : Hp) : Prop where
  r : H a = some (RdO C dx wl i)
  w : H wl = some (.lst (ws.map V.str))
  le : ws.length ≤ 50000
theorem RdAt.keep {C a dx wl : Addr} {ws : List Str} {i : Nat} {H H' : Hp} (h : RdAt C a dx wl ws i H) (s : Same H H') : RdAt C a dx wl ws i H' := ⟨s _ _ h.r, s _ _ h.w, h.le⟩
theorem RdAt.ne {C a dx wl : Addr} {ws : List Str} {i : Nat} {H : Hp} (h : RdAt C a dx wl ws i H) : wl ≠ a := fun e => by
  have h1 := h.r
  have h2 := h.w
  rw [e, h1] at h2
  cases h2
theorem RdAt.step {C a dx wl : Addr} {ws : List Str} {i : Nat} {H : Hp} (h : RdAt C a dx wl ws i H) (j : Nat) : RdAt C a dx wl ws j (upd H a (RdO C dx wl j)) := ⟨upd_same, by rw [upd_ne h.ne]; exact h.w, h.le⟩
theorem sd_updA {a : Addr} {H : Hp} (o : HO) : SD a H (upd H a o) := fun b u n e => by rw [upd_ne n]; exact e
theorem SD.ofSame {a : Addr} {H H' : Hp} (s : Same H H') : SD a H H' := fun b u _ e => s _ _ e
theorem sd_T {C a dx wl : Addr} {i : Nat} {H H' : Hp} (h : H a = some (RdO C dx wl i)) (s : SD a H H') : SameT H H' := fun b ys => ⟨fun e => s b _ (fun z => by rw [z, h] at e; cases e) e, fun o e => s b _ (fun z => by rw [z, h] at e; cases e) e⟩
theorem small10k {n : Nat} (h : n ≤ 50000) : n < sizeLine := Nat.lt_of_le_of_lt h (by decide)
def spRInit (C : Addr) : Sp := fun vs H Q _ => ∃ a dx wl, vs = [.ref a, .ref wl] ∧ H a = some (.ins C dx []) ∧ Q .non (upd H a (RdO C dx wl 0))
def spDone (C : Addr) : Sp := fun vs H Q _ => ∃ a dx wl ws i, vs = [.ref a] ∧ RdAt C a dx wl ws i H ∧ Q (.bl (decide (i = ws.length))) H
def spTake (C : Addr) : Sp := fun vs H Q _ => ∃ a dx wl ws i z, vs = [.ref a] ∧ RdAt C a dx wl ws i H ∧ ws[i]? = some z ∧ Q (.str z) (upd H a (RdO C dx wl (i + 1)))
def spTakeIf (C : Addr) : Sp := fun vs H Q _ => ∃ a dx wl ws i z, vs = [.ref a, .str z] ∧ RdAt C a dx wl ws i H ∧ i ≤ ws.length ∧ (ws[i]? = some z → Q (.bl true) (upd H a (RdO C dx wl (i + 1)))) ∧ (ws[i]? ≠ some z → Q (.bl false) H)
def spWords : Sp := fun vs H Q _ => ∃ x : Str, vs = [.str x] ∧ x.length + 2 ≤ sizeLine ∧ (Txt.split x (PySem.Str.ofString " ")).length ≤ 20001 ∧ (∀ w ∈ Txt.split x (PySem.Str.ofString " "), w.length ≤ 50000) ∧
  ∀ l H', Same H H' → H l = none → H' l = some (.lst ((wordsF (Txt.split x (PySem.Str.ofString " "))).map V.str)) → Q (.ref l) H'
def spShowD (K : PySem.W.Frag) : Sp := fun vs H Q _ => ∃ (v : V) (q : Rat), vs = [v] ∧ DV K H v (frD q) ∧ Short q ∧ Q (.str (shS q)) H
def spDigits : Sp := fun vs H Q _ => ∃ (x : Str) (m : Nat), vs = [.str x] ∧ cl x = dg m ∧ (dg m).length ≤ 15 ∧ ∀ H', Same H H' → Q (.int (m : Int)) H'
def spReadG (K : PySem.W.Frag) : Sp := fun vs H Q _ => ∃ q : Rat, vs = [.str (shS q)] ∧ Short q ∧ ∀ v H', Same H H' → DV K H' v (frD q) → Q v H'
def PShort (p : Pc) : Prop := p.ok ∧ ∀ q ∈ fracs p, Short q
def spShowP (K : PySem.W.Frag) : Sp := fun vs H Q _ => ∃ (v : V) (p : Pc), vs = [v] ∧ DV K H v (pcD p) ∧ PShort p ∧ ∀ H', Same H H' → Q (.str (textP p)) H'
def spShowB (K : PySem.W.Frag) : Sp := fun vs H Q _ => ∃ (v : V) (ps : List Pc), vs = [v] ∧ DV K H v (benchD ps) ∧ ps.length ≤ 60 ∧ (∀ p ∈ ps, PShort p) ∧ ∀ H', Same H H' → Q (.str (textB ps)) H'
theorem toks_len (p : Pc) : (toks p).length ≤ 3 ∧ 2 ≤ (toks p).length := by cases p <;> exact ⟨by simp [toks, fracs], by simp [toks, fracs]⟩
theorem shS_len {q : Rat} (h : Short q) : (shS q).length ≤ 40 := by rw [← cl_len, cl_shS]; exact sh_len q h
theorem tok1_le (p : Pc) (h : PShort p) (t : Str) (m : t ∈ toks p) : t.length ≤ 50 := by
  rcases List.mem_cons.mp m with rfl | m
  · cases p with
    | gap _ => show (PySem.Str.ofString "gap").length ≤ 50; decide +kernel
    | glass _ => show (PySem.Str.ofString "glass").length ≤ 50; decide +kernel
    | stop _ _ => show (PySem.Str.ofString "stop").length ≤ 50; decide +kernel
  · obtain ⟨q, hq, rfl⟩ := List.mem_map.mp m
    have := shS_len (h.2 q hq)
    omega
theorem join_le (sep : Str) (ts : List Str) (B : Nat) (h : ∀ t ∈ ts, t.length ≤ B) : (PySem.Str.join sep ts).length ≤ ts.length * (B + sep.length) := by
  have h1 := StrLaws.join_length_le sep ts
  have h2 : (ts.map (·.length)).sum ≤ ts.length * B := by
    induction ts with
    | nil => exact Nat.zero_le _
    | cons t ts ih =>
      rw [List.map_cons, List.sum_cons, List.length_cons, Nat.succ_mul]
      have := h t List.mem_cons_self
      have := ih (fun x hx => h x (List.mem_cons_of_mem _ hx)) (StrLaws.join_length_le sep ts)
      omega
  rw [Nat.mul_add]
  omega
end Lib
namespace L2
open PySem PySem.Spec PyProof.Rows
end L2
namespace Tx
open PySem PySem.Spec PySem.Builtin PySem.Builtin.Str L2 Lib Op
inductive PartF (α : Type) where
  | pc (p : Pc)
  | rd (n : Nat) (ps : List α)
def Part : Nat → Type
  | 0 => Empty
  | k + 1 => PartF (Part k)
def dgS (n : Nat) : PySem.Str := ⟨(dg n).toArray⟩
theorem cl_dgS (n : Nat) : cl (dgS n) = dg n := by show (dg n).toArray.toList = _; simp
abbrev sOf := PySem.Str.ofString
def jn {α : Type} (f : α → List PySem.Str) : List α → List PySem.Str
  | [] => []
  | [p] => f p
  | p :: q :: r => f p ++ sOf ";" :: jn f (q :: r)
def toksP : (k : Nat) → Part k → List PySem.Str
  | 0, e => nomatch e
  | _ + 1, .pc p => toks p
  | k + 1, .rd n ps => dgS n :: sOf "times" :: sOf "(" :: (jn (toksP k) ps ++ [sOf ")"])
def semi : List PySem.Str → List PySem.Str
  | [] => []
  | [t] => [t ++ ⟨#[59]⟩]
  | t :: u :: r => t :: semi (u :: r)
def gj {α : Type} (f : α → List PySem.Str) : List α → List PySem.Str
  | [] => []
  | [p] => f p
  | p :: q :: r => semi (f p) ++ gj f (q :: r)
def glP : (k : Nat) → Part k → List PySem.Str
  | 0, e => nomatch e
  | _ + 1, .pc p => toks p
  | k + 1, .rd n ps => dgS n :: sOf "times" :: sOf "(" :: (gj (glP k) ps ++ [sOf ")"])
def textK : (k : Nat) → Part k → PySem.Str
  | 0, e => nomatch e
  | _ + 1, .pc p => textP p
  | k + 1, .rd n ps => dgS n ++ sOf " times ( " ++ Txt.join (sOf "; ") (ps.map (textK k)) ++ sOf " )"
def textL (k : Nat) (ps : List (Part k)) : PySem.Str := Txt.join (sOf "; ") (ps.map (textK k))
def WP : (k : Nat) → Part k → Prop
  | 0, e => nomatch e
  | _ + 1, .pc p => PShort p
  | k + 1, .rd n ps => n ≤ 60 ∧ ps ≠ [] ∧ ps.length ≤ 50000 ∧ ∀ p ∈ ps, WP k p
def cnt : (k : Nat) → Part k → Nat
  | 0, e => nomatch e
  | _ + 1, .pc _ => 1
  | k + 1, .rd n ps => n * (ps.map (cnt k)).sum
def told : (k : Nat) → Part k → List Pc
  | 0, e => nomatch e
  | _ + 1, .pc p => [p]
  | k + 1, .rd n ps => (List.replicate n (ps.map (told k)).flatten).flatten
def cntL (k : Nat) (ps : List (Part k)) : Nat := (ps.map (cnt k)).sum
def toldL (k : Nat) (ps : List (Part k)) : List Pc := (ps.map (told k)).flatten
theorem cnt_told : ∀ (k : Nat) (p : Part k), (told k p).length = cnt k p
  | 0, e => nomatch e
  | _ + 1, .pc _ => rfl
  | k + 1, .rd n ps => by
    show (List.replicate n (ps.map (told k)).flatten).flatten.length = n * (ps.map (cnt k)).sum
    rw [L2.len_rep]
    congr 1
    induction ps with
    | nil => rfl
    | cons p r ih => rw [List.map_cons, List.flatten_cons, List.length_append, ih, List.map_cons, List.sum_cons, cnt_told k p]
theorem cntL_told (k : Nat) (ps : List (Part k)) : (toldL k ps).length = cntL k ps := by
  unfold toldL cntL
  induction ps with
  | nil => rfl
  | cons p r ih => rw [List.map_cons, List.flatten_cons, List.length_append, ih, List.map_cons, List.sum_cons, cnt_told k p]
theorem toks_ne (p : Pc) : toks p ≠ [] := by unfold toks; simp
theorem glP_ne : ∀ (k : Nat) (p : Part k), glP k p ≠ []
  | 0, e => nomatch e
  | _ + 1, .pc p => toks_ne p
  | _ + 1, .rd _ _ => by simp [glP]
theorem semi_ne : ∀ {ts : List PySem.Str}, ts ≠ [] → semi ts ≠ []
  | [], h => absurd rfl h
  | [_], _ => by simp [semi]
  | _ :: _ :: _, _ => by simp [semi]
theorem semi_concat : ∀ (xs : List PySem.Str) (x : PySem.Str), semi (xs ++ [x]) = xs ++ [x ++ ⟨#[59]⟩]
  | [], _ => rfl
  | [a], _ => rfl
  | a :: b :: r, x => by
    show a :: semi ((b :: r) ++ [x]) = a :: ((b :: r) ++ [x ++ ⟨#[59]⟩])
    rw [semi_concat (b :: r) x]
theorem gj_ne {α : Type} {f : α → List PySem.Str} (hf : ∀ p, f p ≠ []) : ∀ {ps : List α}, ps ≠ [] → gj f ps ≠ []
  | [], h => absurd rfl h
  | [p], _ => hf p
  | p :: q :: r, _ => fun e => semi_ne (hf p) (List.append_eq_nil_iff.mp e).1
theorem jcons (s x y : PySem.Str) (r : List PySem.Str) : PySem.Str.join s (x :: y :: r) = x ++ s ++ PySem.Str.join s (y :: r) := rfl
theorem app_assoc (a b c : PySem.Str) : a ++ b ++ c = a ++ (b ++ c) := ext (by rw [cl_app, cl_app, cl_app, cl_app, List.append_assoc])
theorem join_app (s : PySem.Str) : ∀ {a b : List PySem.Str}, a ≠ [] → b ≠ [] → PySem.Str.join s (a ++ b) = PySem.Str.join s a ++ s ++ PySem.Str.join s b
  | [], _, h, _ => absurd rfl h
  | [x], [], _, h => absurd rfl h
  | [x], y :: r, _, _ => rfl
  | x :: y :: a, b, _, h => by
    show PySem.Str.join s (x :: y :: (a ++ b)) = _
    rw [jcons, jcons, show y :: (a ++ b) = (y :: a) ++ b from rfl, join_app s (a := y :: a) (by simp) h]
    simp only [app_assoc]
theorem join_semi (s : PySem.Str) : ∀ {ts : List PySem.Str}, ts ≠ [] → PySem.Str.join s (semi ts) = PySem.Str.join s ts ++ ⟨#[59]⟩
  | [], h => absurd rfl h
  | [_], _ => rfl
  | x :: y :: r, _ => by
    show PySem.Str.join s (x :: semi (y :: r)) = _
    have ih := join_semi s (ts := y :: r) (by simp)
    obtain ⟨u, us, e⟩ : ∃ u us, semi (y :: r) = u :: us := by
      cases h : semi (y :: r) with
      | nil => exact absurd h (semi_ne (by simp))
      | cons u us => exact ⟨u, us, rfl⟩
    rw [e, jcons, ← e, ih, jcons]
    simp only [app_assoc]
theorem text_list {α : Type} {f : α → List PySem.Str} {g : α → PySem.Str} (hf : ∀ p, f p ≠ []) (hg : ∀ p, g p = PySem.Str.join ⟨#[32]⟩ (f p)) : ∀ {ps : List α}, ps ≠ [] → Txt.join (sOf "; ") (ps.map g) = PySem.Str.join ⟨#[32]⟩ (gj f ps)
  | [], h => absurd rfl h
  | [p], _ => by rw [joinT]; exact hg p
  | p :: q :: r, _ => by
    have ih := text_list hf hg (ps := q :: r) (by simp)
    rw [joinT] at ih ⊢
    show PySem.Str.join (sOf "; ") (g p :: g q :: r.map g) = PySem.Str.join ⟨#[32]⟩ (semi (f p) ++ gj f (q :: r))
    rw [jcons, join_app _ (semi_ne (hf p)) (gj_ne hf (by simp)), join_semi _ (hf p), ← hg p, ← ih]
    show g p ++ sOf "; " ++ PySem.Str.join (sOf "; ") ((q :: r).map g) = g p ++ ⟨#[59]⟩ ++ ⟨#[32]⟩ ++ PySem.Str.join (sOf "; ") ((q :: r).map g)
    rw [show sOf "; " = (⟨#[59]⟩ : PySem.Str) ++ ⟨#[32]⟩ by decide +kernel]
    simp only [app_assoc]
theorem text_gl : ∀ (k : Nat) (p : Part k), WP k p → textK k p = PySem.Str.join ⟨#[32]⟩ (glP k p)
  | 0, e, _ => nomatch e
  | _ + 1, .pc p, _ => by
    show textP p = PySem.Str.join ⟨#[32]⟩ (toks p)
    unfold textP
    rw [joinT, str_blank]
  | k + 1, .rd n ps, h => by
    have e1 : Txt.join (sOf "; ") (ps.map (textK k)) = PySem.Str.join ⟨#[32]⟩ (gj (glP k) ps) := by
      -- only for these parts
      have : ∀ {qs : List (Part k)}, (∀ p ∈ qs, WP k p) → qs.map (textK k) = qs.map fun p => PySem.Str.join ⟨#[32]⟩ (glP k p) := fun {qs} hq => List.map_congr_left fun p hp => text_gl k p (hq p hp)
      rw [this h.2.2.2]
      exact text_list (glP_ne k) (fun _ => rfl) h.2.1
    show dgS n ++ sOf " times ( " ++ Txt.join (sOf "; ") (ps.map (textK k)) ++ sOf " )" = PySem.Str.join ⟨#[32]⟩ (dgS n :: sOf "times" :: sOf "(" :: (gj (glP k) ps ++ [sOf ")"]))
    rw [e1, show dgS n :: sOf "times" :: sOf "(" :: (gj (glP k) ps ++ [sOf ")"]) = [dgS n, sOf "times", sOf "("] ++ (gj (glP k) ps ++ [sOf ")"]) from rfl, join_app _ (by simp) (by simp), join_app _ (gj_ne (glP_ne k) h.2.1) (by simp)]
    show _ = dgS n ++ ⟨#[32]⟩ ++ (sOf "times" ++ ⟨#[32]⟩ ++ sOf "(") ++ ⟨#[32]⟩ ++ (PySem.Str.join ⟨#[32]⟩ (gj (glP k) ps) ++ ⟨#[32]⟩ ++ sOf ")")
    rw [show sOf " times ( " = (⟨#[32]⟩ : PySem.Str) ++ (sOf "times" ++ ⟨#[32]⟩ ++ sOf "(") ++ ⟨#[32]⟩ by decide +kernel, show sOf " )" = (⟨#[32]⟩ : PySem.Str) ++ sOf ")" by decide +kernel]
    simp only [app_assoc]
theorem textL_gl {k : Nat} {ps : List (Part k)} (h : ∀ p ∈ ps, WP k p) (ne : ps ≠ []) : textL k ps = PySem.Str.join ⟨#[32]⟩ (gj (glP k) ps) := by
  unfold textL
  rw [List.map_congr_left fun p hp => text_gl k p (h p hp)]
  exact text_list (glP_ne k) (fun _ => rfl) ne
theorem semi_mem : ∀ {ts : List PySem.Str} {t : PySem.Str}, t ∈ semi ts → t ∈ ts ∨ ∃ u ∈ ts, t = u ++ ⟨#[59]⟩
  | [], _, h => nomatch h
  | [u], t, h => .inr ⟨u, by simp, List.mem_singleton.mp h⟩
  | u :: v :: r, t, h => by
    rcases List.mem_cons.mp (show t ∈ u :: semi (v :: r) from h) with rfl | h
    · exact .inl (by simp)
    · rcases semi_mem h with h | ⟨w, h1, h2⟩
      · exact .inl (List.mem_cons_of_mem _ h)
      · exact .inr ⟨w, List.mem_cons_of_mem _ h1, h2⟩
theorem semi_free {ts : List PySem.Str} (h : ∀ t ∈ ts, 32 ∉ cl t) : ∀ t ∈ semi ts, 32 ∉ cl t := fun t ht m => by
  rcases semi_mem ht with h1 | ⟨u, h1, rfl⟩
  · exact h t h1 m
  · rw [cl_app] at m
    rcases List.mem_append.mp m with m | m
    · exact h u h1 m
    · exact absurd m (by decide)
theorem gj_free {α : Type} {f : α → List PySem.Str} : ∀ {ps : List α}, (∀ p ∈ ps, ∀ t ∈ f p, 32 ∉ cl t) → ∀ t ∈ gj f ps, 32 ∉ cl t
  | [], _ => fun _ h => nomatch h
  | [p], hf => hf p (by simp)
  | p :: q :: r, hf => fun t ht => by
    rcases List.mem_append.mp (show t ∈ semi (f p) ++ gj f (q :: r) from ht) with h | h
    · exact semi_free (hf p (by simp)) t h
    · exact gj_free (fun p hp => hf p (List.mem_cons_of_mem _ hp)) t h
theorem dg_free (n c : Nat) (h : ¬ (48 ≤ c ∧ c ≤ 57)) : c ∉ dg n := fun m => h (dg_digits n c m)
theorem toks_free (p : Pc) : (∀ t ∈ toks p, 32 ∉ cl t) ∧ ∀ t ∈ toks p, 59 ∉ cl t := by
  have w1 : 32 ∉ cl (wd p) ∧ 59 ∉ cl (wd p) := by cases p <;> exact ⟨by show _ ∉ cl (PySem.Str.ofString _); decide +kernel, by show _ ∉ cl (PySem.Str.ofString _); decide +kernel⟩
  refine ⟨fun t ht => ?_, fun t ht => ?_⟩
  · rcases List.mem_cons.mp (show t ∈ wd p :: (fracs p).map shS from ht) with rfl | h
    · exact w1.1
    · obtain ⟨q, _, rfl⟩ := List.mem_map.mp h
      exact sh_free q 32 (by omega)
  · rcases List.mem_cons.mp (show t ∈ wd p :: (fracs p).map shS from ht) with rfl | h
    · exact w1.2
    · obtain ⟨q, _, rfl⟩ := List.mem_map.mp h
      exact sh_free q 59 (by omega)
theorem glP_free : ∀ (k : Nat) (p : Part k), ∀ t ∈ glP k p, 32 ∉ cl t
  | 0, e => nomatch e
  | _ + 1, .pc p => (toks_free p).1
  | k + 1, .rd n ps => fun t ht => by
    simp only [glP, List.mem_cons, List.mem_append, List.not_mem_nil, or_false] at ht
    rcases ht with rfl | rfl | rfl | h | rfl
    · rw [cl_dgS]; exact dg_free n 32 (by omega)
    · decide +kernel
    · decide +kernel
    · exact gj_free (fun p _ => glP_free k p) t h
    · decide +kernel
theorem split_textL {k : Nat} {ps : List (Part k)} (h : ∀ p ∈ ps, WP k p) (ne : ps ≠ []) : Txt.split (textL k ps) (PySem.Str.ofString " ") = gj (glP k) ps := by
  refine map_cl_inj ?_
  rw [str_blank, split_cut, textL_gl h ne]
  exact cut_join (gj_ne (glP_ne k) ne) (gj_free fun p _ => glP_free k p)
theorem wordsF_app (a b : List PySem.Str) : wordsF (a ++ b) = wordsF a ++ wordsF b := by unfold wordsF; rw [List.map_append, List.flatten_append]
theorem wordsF_cons (a : PySem.Str) (b : List PySem.Str) : wordsF (a :: b) = wordF a ++ wordsF b := by unfold wordsF; rw [List.map_cons, List.flatten_cons]
theorem wordsF_free : ∀ {ts : List PySem.Str}, (∀ t ∈ ts, 59 ∉ cl t) → wordsF ts = ts
  | [], _ => rfl
  | t :: r, h => by rw [wordsF_cons, wordF_no (h t (by simp)), wordsF_free fun x hx => h x (List.mem_cons_of_mem _ hx)]; rfl
theorem wordsF_semi : ∀ {ts : List PySem.Str}, ts ≠ [] → (∀ t ∈ ts, 59 ∉ cl t) → wordsF (semi ts) = ts ++ [sOf ";"]
  | [], h, _ => absurd rfl h
  | [t], _, _ => by show wordsF [t ++ ⟨#[59]⟩] = _; rw [wordsF_cons, wordF_semi]; rfl
  | t :: u :: r, _, h => by
    show wordsF (t :: semi (u :: r)) = _
    rw [wordsF_cons, wordF_no (h t (by simp)), wordsF_semi (by simp) fun x hx => h x (List.mem_cons_of_mem _ hx)]
    rfl
theorem words_list {α : Type} {f g : α → List PySem.Str} (h1 : ∀ p, wordsF (f p) = g p) (h2 : ∀ p, wordsF (semi (f p)) = g p ++ [sOf ";"]) : ∀ ps : List α, wordsF (gj f ps) = jn g ps
  | [] => rfl
  | [p] => h1 p
  | p :: q :: r => by
    show wordsF (semi (f p) ++ gj f (q :: r)) = g p ++ sOf ";" :: jn g (q :: r)
    rw [wordsF_app, h2, words_list h1 h2 (q :: r), List.append_assoc]
    rfl
theorem words_glP : ∀ (k : Nat) (p : Part k), wordsF (glP k p) = toksP k p ∧ wordsF (semi (glP k p)) = toksP k p ++ [sOf ";"]
  | 0, e => nomatch e
  | _ + 1, .pc p => ⟨wordsF_free (toks_free p).2, wordsF_semi (toks_ne p) (toks_free p).2⟩
  | k + 1, .rd n ps => by
    have ih := words_list (fun p => (words_glP k p).1) (fun p => (words_glP k p).2) ps
    have a1 : wordF (dgS n) = [dgS n] := wordF_no (by rw [cl_dgS]; exact dg_free n 59 (by omega))
    have a2 : wordF (sOf "times") = [sOf "times"] := wordF_no (by decide +kernel)
    have a3 : wordF (sOf "(") = [sOf "("] := wordF_no (by decide +kernel)
    have a4 : wordsF [sOf ")"] = [sOf ")"] := by rw [wordsF_cons, wordF_no (by decide +kernel)]; rfl
    have a5 : wordsF [sOf ")" ++ ⟨#[59]⟩] = [sOf ")", sOf ";"] := by rw [wordsF_cons, wordF_semi]; rfl
    refine ⟨?_, ?_⟩
    · show wordsF (dgS n :: sOf "times" :: sOf "(" :: (gj (glP k) ps ++ [sOf ")"])) = dgS n :: sOf "times" :: sOf "(" :: (jn (toksP k) ps ++ [sOf ")"])
      rw [wordsF_cons, wordsF_cons, wordsF_cons, wordsF_app, ih, a1, a2, a3, a4]
      rfl
    · show wordsF (semi ((dgS n :: sOf "times" :: sOf "(" :: gj (glP k) ps) ++ [sOf ")"])) = (dgS n :: sOf "times" :: sOf "(" :: (jn (toksP k) ps ++ [sOf ")"])) ++ [sOf ";"]
      rw [semi_concat, wordsF_app, wordsF_cons, wordsF_cons, wordsF_cons, ih, a1, a2, a3, a5]
      simp
theorem words_textL {k : Nat} {ps : List (Part k)} (h : ∀ p ∈ ps, WP k p) (ne : ps ≠ []) : wordsF (Txt.split (textL k ps) (PySem.Str.ofString " ")) = jn (toksP k) ps := by
  rw [split_textL h ne]
  exact words_list (fun p => (words_glP k p).1) (fun p => (words_glP k p).2) ps
theorem cut_len (c : Nat) : ∀ l : List Nat, (cut c l).length ≤ l.length + 1 ∧ ∀ x ∈ cut c l, x.length ≤ l.length
  | [] => ⟨by simp [cut], fun x hx => by simp [cut] at hx; subst hx; simp⟩
  | a :: l => by
    obtain ⟨h1, h2⟩ := cut_len c l
    have ne := cut_ne c l
    show (if a = c then [] :: cut c l else match cut c l with
      | [] => [[a]]
      | p :: ps => (a :: p) :: ps).length ≤ _ ∧ ∀ x ∈ (if a = c then [] :: cut c l else match cut c l with
      | [] => [[a]]
      | p :: ps => (a :: p) :: ps), x.length ≤ _
    cases hc : cut c l with
    | nil => exact absurd hc ne
    | cons p ps =>
      rw [hc] at h1 h2
      by_cases z : a = c
      · rw [if_pos z]
        refine ⟨by simp only [List.length_cons] at h1 ⊢; omega, fun x hx => ?_⟩
        rcases List.mem_cons.mp hx with rfl | hx
        · exact Nat.zero_le _
        · have := h2 x hx; simp only [List.length_cons]; omega
      · rw [if_neg z]
        refine ⟨by simp only [List.length_cons] at h1 ⊢; omega, fun x hx => ?_⟩
        rcases List.mem_cons.mp hx with rfl | hx
        · have := h2 p (by simp); simp only [List.length_cons]; omega
        · have := h2 x (List.mem_cons_of_mem _ hx); simp only [List.length_cons]; omega
theorem split_len (x : PySem.Str) : (Txt.split x (PySem.Str.ofString " ")).length ≤ x.length + 1 ∧ ∀ t ∈ Txt.split x (PySem.Str.ofString " "), t.length ≤ x.length := by
  have e := split_cut x 32
  have h := cut_len 32 (cl x)
  rw [← e, cl_len, List.length_map] at h
  rw [str_blank]
  refine ⟨h.1, fun t ht => ?_⟩
  rw [← cl_len]
  exact h.2 _ (List.mem_map_of_mem ht)
theorem words_le (ts : List PySem.Str) : (wordsF ts).length ≤ 2 * ts.length := by
  induction ts with
  | nil => exact Nat.le_refl _
  | cons w L ih =>
    rw [wordsF_cons, List.length_append, List.length_cons]
    have : (wordF w).length ≤ 2 := by unfold wordF; split <;> simp
    omega
theorem jn_len_le {k : Nat} {ps : List (Part k)} (h : ∀ p ∈ ps, WP k p) (ne : ps ≠ []) : (jn (toksP k) ps).length ≤ 2 * ((textL k ps).length + 1) := by
  rw [← words_textL h ne]
  have h1 := words_le (Txt.split (textL k ps) (PySem.Str.ofString " "))
  have h2 := (split_len (textL k ps)).1
  omega
theorem toksP_pos : ∀ (k : Nat) (p : Part k), 1 ≤ (toksP k p).length
  | 0, e => nomatch e
  | _ + 1, .pc p => by have := toks_len p; show 1 ≤ (toks p).length; omega
  | _ + 1, .rd _ _ => by simp [toksP]
theorem jn_ge {k : Nat} : ∀ ps : List (Part k), ps.length ≤ (jn (toksP k) ps).length
  | [] => Nat.le_refl _
  | [p] => toksP_pos k p
  | p :: q :: r => by
    show (q :: r).length + 1 ≤ (toksP k p ++ sOf ";" :: jn (toksP k) (q :: r)).length
    rw [List.length_append]
    have h1 := toksP_pos k p
    have h2 := jn_ge (q :: r)
    simp only [List.length_cons] at h2 ⊢
    omega
def tailP (k : Nat) : List (Part k) → List PySem.Str
  | [] => []
  | q :: r => sOf ";" :: jn (toksP k) (q :: r)
theorem jn_tail (k : Nat) (p : Part k) (r : List (Part k)) : jn (toksP k) (p :: r) = toksP k p ++ tailP k r := by
  cases r with
  | nil => show toksP k p = toksP k p ++ []; rw [List.append_nil]
  | cons q r => rfl
end Tx
namespace Lib
open PySem L2 Fr Op Tx
def PV (K : PySem.W.Frag) : (k : Nat) → (Addr → Prop) → Hp → V → Part k → Prop
  | 0, _, _, _, e => nomatch e
  | _ + 1, _, H, v, .pc p => DV K H v (pcD p)
  | k + 1, F, H, v, .rd n ps => ∃ (t l : Addr) (xs : List V), v = .ref t ∧ H t = some (.tup [.str (sOf "times"), .int (n : Int), .ref l]) ∧ F l ∧ H l = some (.lst xs) ∧ xs.length = ps.length ∧ ∀ (i : Nat) (x : V) (p : Part k), xs[i]? = some x → ps[i]? = some p → PV K k F H x p
def PVs (K : PySem.W.Frag) (k : Nat) (F : Addr → Prop) (H : Hp) (xs : List V) (ps : List (Part k)) : Prop := xs.length = ps.length ∧ ∀ (i : Nat) (x : V) (p : Part k), xs[i]? = some x → ps[i]? = some p → PV K k F H x p
theorem PV.keep {K : PySem.W.Frag} {F G : Addr → Prop} {H H' : Hp} (sT : SameT H H') (sL : ∀ l xs, F l → H l = some (.lst xs) → H' l = some (.lst xs) ∧ G l) : ∀ (k : Nat) {v : V} {p : Part k}, PV K k F H v p → PV K k G H' v p
  | 0, _, e, _ => nomatch e
  | _ + 1, _, .pc p, h => dv_keepT sT (noL_pc p) h
  | k + 1, _, .rd n ps, h => by
    obtain ⟨t, l, xs, e, ht, fl, hl, el, hx⟩ := h
    exact ⟨t, l, xs, e, (sT _ _).1 ht, (sL l xs fl hl).2, (sL l xs fl hl).1, el, fun i x p h1 h2 => PV.keep sT sL k (hx i x p h1 h2)⟩
theorem PVs.keep {K : PySem.W.Frag} {F G : Addr → Prop} {H H' : Hp} {k : Nat} {xs : List V} {ps : List (Part k)} (h : PVs K k F H xs ps) (sT : SameT H H') (sL : ∀ l xs, F l → H l = some (.lst xs) → H' l = some (.lst xs) ∧ G l) : PVs K k G H' xs ps :=
  ⟨h.1, fun i x p h1 h2 => PV.keep sT sL k (h.2 i x p h1 h2)⟩
theorem PVs.same {K : PySem.W.Frag} {F : Addr → Prop} {H H' : Hp} {k : Nat} {xs : List V} {ps : List (Part k)} (h : PVs K k F H xs ps) (s : Same H H') : PVs K k F H' xs ps := h.keep s.t fun l xs fl hl => ⟨s _ _ hl, fl⟩
theorem PVs.nil {K : PySem.W.Frag} {F : Addr → Prop} {H : Hp} {k : Nat} : PVs K k F H [] [] := ⟨rfl, fun i x p h => nomatch h⟩
theorem PVs.concat {K : PySem.W.Frag} {F : Addr → Prop} {H : Hp} {k : Nat} {xs : List V} {ps : List (Part k)} {v : V} {p : Part k} (h : PVs K k F H xs ps) (hv : PV K k F H v p) : PVs K k F H (xs ++ [v]) (ps ++ [p]) := by
  refine ⟨by rw [List.length_append, List.length_append, h.1]; rfl, fun i x q h1 h2 => ?_⟩
  by_cases hi : i < xs.length
  · rw [List.getElem?_append_left hi] at h1
    rw [List.getElem?_append_left (by rw [← h.1]; exact hi)] at h2
    exact h.2 i x q h1 h2
  · have hl := lt_of_get h1
    rw [List.length_append] at hl
    have e : i = xs.length := by simp only [List.length_cons, List.length_nil] at hl; omega
    subst e
    rw [List.getElem?_append_right (Nat.le_refl _), Nat.sub_self] at h1
    rw [h.1, List.getElem?_append_right (Nat.le_refl _), Nat.sub_self] at h2
    cases h1
    cases h2
    exact hv
def spTimes : Sp := fun vs H Q _ => ∃ n : Nat, vs = [.str (dgS n)] ∧ n ≤ 60 ∧ Q (.int (n : Int)) H
def TkAt (ws : List Str) (i : Nat) (ts : List Str) : Prop := ∀ (j : Nat) (t : Str), ts[j]? = some t → ws[i + j]? = some t
theorem TkAt.left {ws a b : List Str} {i : Nat} (h : TkAt ws i (a ++ b)) : TkAt ws i a := fun j t ht => h j t (by rw [List.getElem?_append_left (lt_of_get ht)]; exact ht)
theorem TkAt.right {ws a b : List Str} {i : Nat} (h : TkAt ws i (a ++ b)) : TkAt ws (i + a.length) b := fun j t ht => by
  rw [Nat.add_assoc]
  exact h (a.length + j) t (by rw [List.getElem?_append_right (by omega), Nat.add_sub_cancel_left]; exact ht)
theorem TkAt.head {ws b : List Str} {i : Nat} {t : Str} (h : TkAt ws i (t :: b)) : ws[i]? = some t := h 0 t rfl
theorem TkAt.tail {ws b : List Str} {i : Nat} {t : Str} (h : TkAt ws i (t :: b)) : TkAt ws (i + 1) b := TkAt.right (a := [t]) h
theorem TkAt.le {ws ts : List Str} {i : Nat} (h : TkAt ws i ts) (ne : ts ≠ []) : i + ts.length ≤ ws.length := by
  cases ts with
  | nil => exact absurd rfl ne
  | cons t r =>
    have e : (t :: r)[r.length]? = some ((t :: r)[r.length]'(by simp)) := List.getElem?_eq_getElem _
    have := lt_of_get (h _ _ e)
    simp only [List.length_cons]
    omega
def FrA (H : Hp) : Addr → Prop := fun b => H b = none
def spRPk (K : PySem.W.Frag) (C : Addr) (k : Nat) : Sp := fun vs H Q _ => ∃ (a dx wl : Addr) (ws : List Str) (i : Nat) (p : Part k) (dp : Int), vs = [.ref a, .int dp] ∧ dp = 5 - (k : Int) ∧ RdAt C a dx wl ws i H ∧ TkAt ws i (toksP k p) ∧ WP k p ∧
  ∀ v H', SD a H H' → RdAt C a dx wl ws (i + (toksP k p).length) H' → PV K k (FrA H) H' v p → Q v H'
def spRRk (K : PySem.W.Frag) (C : Addr) (k : Nat) : Sp := fun vs H Q _ => ∃ (a dx wl : Addr) (ws : List Str) (i n : Nat) (ps : List (Part k)) (dp : Int), vs = [.ref a, .str (dgS n), .int dp] ∧ dp = 4 - (k : Int) ∧ RdAt C a dx wl ws i H ∧ TkAt ws i (sOf "times" :: sOf "(" :: (jn (toksP k) ps ++ [sOf ")"])) ∧ WP (k + 1) (.rd n ps) ∧
  ∀ v H', SD a H H' → RdAt C a dx wl ws (i + ((jn (toksP k) ps).length + 3)) H' → PV K (k + 1) (FrA H) H' v (.rd n ps) → Q v H'
def spRPsk (K : PySem.W.Frag) (C : Addr) (k : Nat) : Sp := fun vs H Q _ => ∃ (a dx wl : Addr) (ws : List Str) (i : Nat) (ps : List (Part k)) (dp : Int), vs = [.ref a, .int dp] ∧ dp = 5 - (k : Int) ∧ RdAt C a dx wl ws i H ∧ TkAt ws i (jn (toksP k) ps) ∧ ws[i + (jn (toksP k) ps).length]? ≠ some (sOf ";") ∧ ps ≠ [] ∧ ps.length ≤ 50000 ∧ (∀ p ∈ ps, WP k p) ∧
  ∀ l xs H', SD a H H' → H l = none → RdAt C a dx wl ws (i + (jn (toksP k) ps).length) H' → H' l = some (.lst xs) → PVs K k (fun b => H b = none ∧ b ≠ l) H' xs ps → Q (.ref l) H'
def spCntk (K : PySem.W.Frag) (k : Nat) : Sp := fun vs H Q _ => ∃ (l : Addr) (xs : List V) (ps : List (Part k)) (F : Addr → Prop), vs = [.ref l] ∧ H l = some (.lst xs) ∧ PVs K k F H xs ps ∧ ps.length ≤ 50000 ∧ (∀ p ∈ ps, WP k p) ∧ k ≤ 5 ∧ Q (.int (cntL k ps : Int)) H
def spOutk (K : PySem.W.Frag) (k : Nat) : Sp := fun vs H Q _ => ∃ (l : Addr) (xs : List V) (ps : List (Part k)) (F : Addr → Prop), vs = [.ref l] ∧ H l = some (.lst xs) ∧ PVs K k F H xs ps ∧ ps.length ≤ 50000 ∧ (∀ p ∈ ps, WP k p) ∧ cntL k ps ≤ 60 ∧
  ∀ l ys H', Same H H' → H l = none → H' l = some (.lst ys) → DVs K H' ys ((toldL k ps).map pcD) → Q (.ref l) H'
end Lib
namespace L2
open PySem PySem.Spec PyProof.Rows
end L2
namespace Lib
open PySem L2 Fr Op Tx
theorem dvs_take {K : PySem.W.Frag} {H : Hp} : ∀ {xs : List V} {ds : List PyData}, DVs K H xs ds → ∀ n, DVs K H (xs.take n) (ds.take n)
  | _, _, .nil, n => by rw [List.take_nil, List.take_nil]; exact .nil
  | _, _, .cons h q, 0 => .nil
  | _, _, .cons h q, n + 1 => .cons h (dvs_take q n)
theorem textP_le {p : Pc} (h : PShort p) : (textP p).length ≤ 200 := by
  unfold textP
  rw [joinT]
  have h1 := join_le (PySem.Str.ofString " ") (toks p) 50 (fun t ht => Lib.tok1_le p h t ht)
  have h2 := toks_len p
  have h3 : (PySem.Str.ofString " ").length = 1 := by decide +kernel
  have h4 : (toks p).length * (50 + (PySem.Str.ofString " ").length) ≤ 3 * 51 := Nat.mul_le_mul h2.1 (by omega)
  omega
theorem textL_le {k : Nat} {ps : List (Part k)} {n B : Nat} (l : ps.length ≤ n) (h : ∀ p ∈ ps, (textK k p).length ≤ B) : (textL k ps).length ≤ n * (B + 2) := by
  unfold textL
  rw [joinT]
  have h1 := join_le (sOf "; ") (ps.map (textK k)) B (fun t ht => by obtain ⟨p, hp, rfl⟩ := List.mem_map.mp ht; exact h p hp)
  rw [List.length_map, show (sOf "; ").length = 2 by decide +kernel] at h1
  exact Nat.le_trans h1 (Nat.mul_le_mul_right _ l)
end Lib
namespace Lib
open PySem L2 Fr Op Tx
abbrev pPc (k : Nat) (p : Pc) : Part (k + 1) := PartF.pc p
abbrev pRd (k n : Nat) (qs : List (Part k)) : Part (k + 1) := PartF.rd n qs
end Lib
namespace L2
open PySem PySem.Spec PyProof.Rows
end L2
namespace Lib
open PySem L2 Fr Op Tx
theorem textB_L (k : Nat) (ps : List Pc) : textL (k + 1) (ps.map (pPc k)) = textB ps := by
  unfold textL textB
  rw [List.map_map]
  rfl
theorem toldL_pcs (k : Nat) (ps : List Pc) : toldL (k + 1) (ps.map (pPc k)) = ps := by
  unfold toldL
  rw [List.map_map]
  induction ps with
  | nil => rfl
  | cons p r ih => rw [List.map_cons, List.flatten_cons, ih]; rfl
theorem WP_pcs {k : Nat} {ps : List Pc} (h : ∀ p ∈ ps, PShort p) : ∀ q ∈ ps.map (pPc k), WP (k + 1) q := fun q hq => by
  obtain ⟨p, hp, rfl⟩ := List.mem_map.mp hq
  exact h p hp
end Lib
namespace L2
open PySem PySem.Spec PyProof.Rows PySem.Builtin
end L2
namespace Lib
open PySem L2 Fr Op Tx
theorem textL_one (k : Nat) (p : Part k) : textL k [p] = textK k p := by
  unfold textL
  rw [joinT]
  rfl
theorem textB_le {ps : List Pc} {n : Nat} (h : ∀ p ∈ ps, PShort p) (l : ps.length ≤ n) : (textB ps).length ≤ n * 202 := by
  rw [← textB_L 0]
  refine textL_le (by rw [List.length_map]; exact l) fun q hq => ?_
  obtain ⟨p, hp, rfl⟩ := List.mem_map.mp hq
  exact textP_le (h p hp)
theorem pshort_bd {m : Nat} {p : Pc} (ok : p.ok) (b : p.bd m) (hm : m ≤ 40) : PShort p := by
  have sh : ∀ q : Rat, Bd m q → Short q := fun q h => by
    have p1 : (2 : Nat) ^ 40 ≤ 10 ^ 15 := by decide
    have p2 : (2 : Nat) ^ m ≤ 2 ^ 40 := Nat.pow_le_pow_right (by decide) hm
    exact ⟨by have := h.n; omega, by have := h.d; omega⟩
  refine ⟨ok, fun q hq => ?_⟩
  cases p with
  | gap g => rw [List.mem_singleton.mp hq]; exact sh _ b
  | glass g => rw [List.mem_singleton.mp hq]; exact sh _ b
  | stop lo hi =>
    rcases List.mem_cons.mp hq with rfl | h
    · exact sh _ b.1
    · rw [List.mem_singleton.mp h]; exact sh _ b.2
def BnA (K : PySem.W.Frag) (H : Hp) (l : Addr) (ps : List Pc) : Prop := ∃ xs, H l = some (.lst xs) ∧ DVs K H xs (ps.map pcD) ∧ xs.length = ps.length
theorem BnA.of {K : PySem.W.Frag} {H : Hp} {l : Addr} {xs : List V} {ps : List Pc} (h : H l = some (.lst xs)) (d : DVs K H xs (ps.map pcD)) : BnA K H l ps := ⟨xs, h, d, by have := d.len; rw [List.length_map] at this; exact this⟩
theorem BnA.keep {K : PySem.W.Frag} {H H' : Hp} {l : Addr} {ps : List Pc} (h : BnA K H l ps) (s : Same H H') : BnA K H' l ps := by
  obtain ⟨xs, h1, h2, h3⟩ := h
  exact ⟨xs, s _ _ h1, h2.keep s, h3⟩
theorem BnA.dv {K : PySem.W.Frag} {H : Hp} {l : Addr} {ps : List Pc} (h : BnA K H l ps) : DV K H (.ref l) (benchD ps) := by
  obtain ⟨xs, h1, h2, h3⟩ := h
  exact .lst (SqL.of h1) h2
theorem bna_take {K : PySem.W.Frag} {H : Hp} {p : Addr} {xs : List V} {ps : List Pc} (h : DVs K H xs (ps.map pcD)) (hp : H p = none) (k : Nat) : BnA K (upd H p (.lst (xs.take k))) p (ps.take k) := by
  refine .of upd_same ?_
  rw [List.map_take]
  exact (dvs_take h k).keep (same_new hp _)
end Lib
namespace L2
open PySem PySem.Spec PyProof.Rows
end L2
namespace L2
open PySem PySem.Spec PyProof.Rows
end L2
namespace L2
open PySem PySem.Spec PyProof.Rows
end L2
namespace L2
open PySem PySem.Spec PyProof.Rows
end L2
namespace L2
open PySem PySem.Spec PyProof.Rows
end L2
namespace L2
open PySem PySem.Spec PyProof.Rows
section
variable {X : Cx} {k : Nat} {m : Str} {pos apos : Pos} {e o : Expr} {es : List Expr} {ta : TE} {t : TA} {E : XK}
def tMX (P : Program) (w : World) (K : PySem.W.Frag) (mg : Str → Option Value) (base : Heap) (k : Nat) (m : Str) (E : XK) (ta : TE) (t : TA) : TE := fun σ H Q => ta σ H fun x H1 => ∃ a C dx fs ps sp, x = .ref a ∧ H1 a = some (.ins C dx fs) ∧ fs.lookup m = none ∧
  MC P w K mg base k C m ps sp ∧ t σ H1 fun vs H2 => sp (x :: vs) H2 Q E
theorem pe_mX {pl : Sem Bool} (hx : Passes (CX1 X.prog X.w) X E) (he : PE X o ta) (hr : RoomB true k X.A) (ha : PA X (e :: es) t)
    (hst : starEach (e :: es) X.env = (false, eval e X.env) :: starEach es X.env := by rfl) (hpl : (backTo pos (starEach es X.env)).any (·.1) = false := by rfl)
    (ht : eval (.Call (.Attribute o m apos) (e :: es) [] pos) X.env = (do
      let ov ← eval o X.env
      standAt apos.atName
      let (f, first) ← holding [ov] (getMethod ov m pl)
      callWith pos f first (backTo pos (starEach (e :: es) X.env)) (backToKw pos (keywordEach [] X.env))) := by rfl) :
    PE X (.Call (.Attribute o m apos) (e :: es) [] pos) (tMX X.prog X.w X.K X.mg X.base k m E ta t) := by
  intro pins s σ H Q I h
  refine PySem.W.methodCall_KW (pl := pl) (thn (he pins s σ H _ I h) fun u s1 ⟨x, H1, I1, rx, a, C, dx, fs, ps, sp, ex, ea, l, M, q⟩ => ?_) ht
  subst ex
  obtain rfl : u = Value.ref a := rx
  obtain ⟨f, fd, F, hm, hb⟩ := M.ex
  refine getmeth_ok I1 ea M.cl hm l ?_
  refine PySem.W.callWith_K (first := [.ref a]) (h₀ := X.base) I.ok.mod.kin hm.kp (thn (ha pos pins s1 σ H1 _ I1 q) fun us s2 ⟨vs, H2, I2, r, q2⟩ => ⟨I2.kIn, ?_⟩) hst hpl
  exact run_fn (us := .ref a :: us) (vs := .ref a :: vs) (dvs := []) (ds := []) (E := E) F.ok hr.room hb .nil hx I2 (.cons rfl r) (by rw [List.append_nil]; exact q2)
end
end L2
namespace Lib
open PySem L2 Fr Op Tx
end Lib
namespace Lib
open PySem L2 Fr Op Tx
end Lib
namespace Lib
open PySem L2 Fr Op Tx
end Lib
namespace Lib
open PySem L2 Fr Op Tx
end Lib
namespace L2
open PySem PySem.Spec PyProof.Rows
section
variable {κ : Type} [DecidableEq κ]
def valV (kvs : List (κ × V)) (k : κ) : Option V := (kvs.find? fun kv => decide (kv.1 = k)).map (·.2)
def putK (kvs : List (κ × V)) (k : κ) (v : V) : List (κ × V) :=
  if (kvs.any fun kv => decide (kv.1 = k)) = true then kvs.map (fun kv => if kv.1 = k then (kv.1, v) else kv) else kvs ++ [(k, v)]
theorem valV_pos {p : κ × V} {r : List (κ × V)} {k : κ} (e : p.1 = k) : valV (p :: r) k = some p.2 := by simp [valV, List.find?_cons, e]
theorem valV_neg {p : κ × V} {r : List (κ × V)} {k : κ} (e : ¬ p.1 = k) : valV (p :: r) k = valV r k := by simp [valV, List.find?_cons, e]
theorem valV_any (k : κ) : ∀ kvs : List (κ × V), (kvs.any fun kv => decide (kv.1 = k)) = (valV kvs k).isSome
  | [] => rfl
  | p :: r => by
    rw [List.any_cons]
    by_cases e : p.1 = k
    · simp only [valV_pos e, decide_eq_true e, Bool.true_or, Option.isSome_some]
    · rw [valV_neg e, decide_eq_false e, Bool.false_or]; exact valV_any k r
theorem valV_map (k j : κ) (y : V) : ∀ kvs : List (κ × V), valV (kvs.map fun kv => if kv.1 = k then (kv.1, y) else kv) j = (valV kvs j).map fun x => if j = k then y else x
  | [] => rfl
  | p :: r => by
    have ih := valV_map k j y r
    rw [List.map_cons]
    by_cases h : p.1 = k
    · rw [if_pos h]
      by_cases e : p.1 = j
      · rw [valV_pos (p := (p.1, y)) e, valV_pos e, Option.map_some, if_pos (e.symm.trans h)]
      · rw [valV_neg (p := (p.1, y)) e, valV_neg e, ih]
    · rw [if_neg h]
      by_cases e : p.1 = j
      · rw [valV_pos (p := p) e, valV_pos e, Option.map_some, if_neg (fun z => h (e.trans z))]
      · rw [valV_neg (p := p) e, valV_neg e, ih]
theorem valV_snoc (k j : κ) (y : V) : ∀ kvs : List (κ × V), valV kvs k = none → valV (kvs ++ [(k, y)]) j = if j = k then some y else valV kvs j
  | [], _ => by
    by_cases e : k = j
    · rw [if_pos e.symm]; exact valV_pos (p := (k, y)) e
    · rw [if_neg (fun z => e z.symm)]; exact valV_neg (p := (k, y)) e
  | p :: r, hn => by
    rw [List.cons_append]
    have hk : ¬ p.1 = k := fun z => by rw [valV_pos z] at hn; cases hn
    rw [valV_neg hk] at hn
    have ih := valV_snoc k j y r hn
    by_cases e : p.1 = j
    · rw [valV_pos e, valV_pos e, if_neg (fun z => hk (e.trans z))]
    · rw [valV_neg e, valV_neg e, ih]
theorem valV_put (kvs : List (κ × V)) (k j : κ) (y : V) : valV (putK kvs k y) j = if j = k then some y else valV kvs j := by
  unfold putK
  by_cases a : (kvs.any fun kv => decide (kv.1 = k)) = true
  · rw [if_pos a, valV_map]
    rw [valV_any] at a
    by_cases e : j = k
    · obtain ⟨x, hx⟩ := Option.isSome_iff_exists.mp a
      rw [if_pos e, e, hx, Option.map_some, if_pos rfl]
    · rw [if_neg e]
      cases valV kvs j with
      | none => rfl
      | some x => rw [Option.map_some, if_neg e]
  · rw [if_neg a]
    refine valV_snoc k j y kvs ?_
    rw [valV_any] at a
    cases q : valV kvs k with
    | none => rfl
    | some x => rw [q] at a; exact (a rfl).elim
theorem length_putK (kvs : List (κ × V)) (k : κ) (v : V) : (putK kvs k v).length ≤ kvs.length + 1 := by
  unfold putK
  split
  · rw [List.length_map]; omega
  · rw [List.length_append, List.length_cons, List.length_nil]; omega
theorem RelO.isSome_eq {o : Option V} {u : Option Value} (r : RelO o u) : o.isSome = u.isSome := by
  cases o with
  | none => cases u with
    | none => rfl
    | some _ => exact (show False from r).elim
  | some _ => cases u with
    | none => exact (show False from r).elim
    | some _ => rfl
theorem RelO.getD {o : Option V} {u : Option Value} {d : V} {d' : Value} (r : RelO o u) (rd : RelV d d') : RelV (o.getD d) (u.getD d') := by
  cases o with
  | none => cases u with
    | none => exact rd
    | some _ => exact (show False from r).elim
  | some _ => cases u with
    | none => exact (show False from r).elim
    | some _ => exact r
theorem KV.val {kvs : List (κ × V)} {vs : List (κ × Value)} (r : KV kvs vs) (k : κ) : RelO (valV kvs k) (valueAt vs k) := by
  unfold KV at r
  induction r with
  | nil => exact True.intro
  | @cons p q ps qs h t ih =>
    obtain ⟨h1, h2⟩ := h
    by_cases e : p.1 = k
    · have e' : q.1 = k := h1.symm.trans e
      have b : valueAt (q :: qs) k = some q.2 := by simp [valueAt, List.find?_cons, e']
      rw [valV_pos e, b]; exact h2
    · have e' : ¬ q.1 = k := fun z => e (h1.trans z)
      have b : valueAt (q :: qs) k = valueAt qs k := by simp [valueAt, List.find?_cons, e']
      rw [valV_neg e, b]; exact ih
theorem KV.any {kvs : List (κ × V)} {vs : List (κ × Value)} (r : KV kvs vs) (k : κ) : (kvs.any fun kv => decide (kv.1 = k)) = vs.any fun kv => decide (kv.1 = k) := by
  unfold KV at r
  induction r with
  | nil => rfl
  | cons h t ih => rw [List.any_cons, List.any_cons, ih, h.1]
theorem KV.repl {kvs : List (κ × V)} {vs : List (κ × Value)} (r : KV kvs vs) (k : κ) {y : V} {u : Value} (ry : RelV y u) :
    KV (kvs.map fun kv => if kv.1 = k then (kv.1, y) else kv) (vs.map fun kv => if kv.1 = k then (kv.1, u) else kv) := by
  unfold KV at r ⊢
  induction r with
  | nil => exact .nil
  | @cons p q ps qs h t ih =>
    rw [List.map_cons, List.map_cons]
    refine .cons ?_ ih
    obtain ⟨h1, h2⟩ := h
    by_cases e : p.1 = k
    · rw [if_pos e, if_pos (h1.symm.trans e)]; exact ⟨h1, ry⟩
    · rw [if_neg e, if_neg (fun z => e (h1.trans z))]; exact ⟨h1, h2⟩
theorem KV.put {kvs : List (κ × V)} {vs : List (κ × Value)} (r : KV kvs vs) (k : κ) {y : V} {u : Value} (ry : RelV y u) : KV (putK kvs k y) (stored vs k u) := by
  unfold putK stored
  rw [r.any k]
  by_cases e : (vs.any fun kv => decide (kv.1 = k)) = true
  · rw [if_pos e, if_pos e]; exact r.repl k ry
  · rw [if_neg e, if_neg e]; exact Paired.snoc r ⟨rfl, ry⟩
theorem KV.keys {kvs : List (κ × V)} {vs : List (κ × Value)} (r : KV kvs vs) : kvs.map (·.1) = vs.map (·.1) := by
  unfold KV at r
  induction r with
  | nil => rfl
  | cons h t ih => rw [List.map_cons, List.map_cons, ih, h.1]
theorem KV.length {kvs : List (κ × V)} {vs : List (κ × Value)} (r : KV kvs vs) : kvs.length = vs.length := Paired.length r
end
theorem kV_is {P : Program} {w : World} {k : Key} {u : Value} (r : RelV (kV k) u) : (mixKind P w).is k u = true := by
  cases k with
  | inl i => obtain ⟨t, e⟩ := (show ∃ t, u = Value.int i t from r); subst e; exact mixKind_int P w i t
  | inr x => obtain ⟨t, e⟩ := (show ∃ t, u = Value.str x t from r); subst e; exact mixKind_str P w x t
theorem items_are {P : Program} {w : World} : ∀ {ks : List Key} {us : List Value}, Vals (ks.map kV) us → ItemsAre (mixKind P w) ks us
  | [], _, r => by rw [List.map_nil] at r; cases r; exact .nil
  | k :: ks, _, r => by
    rw [List.map_cons] at r
    cases r with
    | cons h t => exact .cons (kV_is h) (items_are t)
abbrev KT (H : Hp) : List (List Key × V) → List (List Key × Addr × Value) → Prop := Paired fun p q => p.1 = q.1 ∧ H q.2.1 = some (.tup (p.1.map kV)) ∧ RelV p.2 q.2.2
theorem KT.val {H : Hp} {kvs : List (List Key × V)} {xs : List (List Key × Addr × Value)} (r : KT H kvs xs) (k : List Key) : RelO (valV kvs k) ((atKey xs k).map (·.2)) := by
  induction r with
  | nil => exact True.intro
  | @cons p q ps qs h t ih =>
    obtain ⟨h1, _, h2⟩ := h
    by_cases e : p.1 = k
    · have e' : q.1 = k := h1.symm.trans e
      have b : atKey (q :: qs) k = some q.2 := by simp [atKey, List.find?_cons, e']
      rw [valV_pos e, b]; exact h2
    · have e' : ¬ q.1 = k := fun z => e (h1.trans z)
      have b : atKey (q :: qs) k = atKey qs k := by simp [atKey, List.find?_cons, e']
      rw [valV_neg e, b]; exact ih
theorem KT.repl {H : Hp} {kvs : List (List Key × V)} {xs : List (List Key × Addr × Value)} (r : KT H kvs xs) (k : List Key) {y : V} {u : Value} (ry : RelV y u) :
    KT H (kvs.map fun kv => if kv.1 = k then (kv.1, y) else kv) (xs.map (putAt k u)) := by
  induction r with
  | nil => exact .nil
  | @cons p q ps qs h t ih =>
    rw [List.map_cons, List.map_cons]
    refine .cons ?_ ih
    obtain ⟨h1, h2, h3⟩ := h
    unfold putAt
    by_cases e : p.1 = k
    · rw [if_pos e, if_pos (h1.symm.trans e)]; exact ⟨h1, h2, ry⟩
    · rw [if_neg e, if_neg (fun z => e (h1.trans z))]; exact ⟨h1, h2, h3⟩
theorem KT.put {H : Hp} {kvs : List (List Key × V)} {xs : List (List Key × Addr × Value)} (r : KT H kvs xs) (k : List Key) {b : Addr} {y : V} {u : Value} (hb : H b = some (.tup (k.map kV))) (ry : RelV y u) :
    KT H (putK kvs k y) (storedH xs k b u) := by
  have e : (kvs.any fun kv => decide (kv.1 = k)) = (atKey xs k).isSome := by
    rw [valV_any, (r.val k).isSome_eq, Option.isSome_map]
  unfold putK storedH
  rw [e]
  by_cases q : (atKey xs k).isSome = true
  · rw [if_pos q, if_pos q]; exact r.repl k ry
  · rw [if_neg q, if_neg q]; exact Paired.snoc r ⟨rfl, hb, ry⟩
theorem KT.keeps {H H' : Hp} {kvs : List (List Key × V)} {xs : List (List Key × Addr × Value)} (r : KT H kvs xs) (ht : ∀ b ys, H b = some (.tup ys) → H' b = some (.tup ys)) : KT H' kvs xs :=
  Paired.mapP r fun _ _ z => ⟨z.1, ht _ _ z.2.1, z.2.2⟩
section
variable {P : Program} {w : World} {H : Hp} {h : Heap} {a : Addr}
theorem rd_of {u : HO} (ok : HOk P w H h) (e : Rd H a u) : ObjOk P w H h a u := e.ok ok
theorem dk_rd {kvs : List (Key × V)} (ok : HOk P w H h) (e : Rd H a (.dK kvs)) : kvs.length ≤ sizeLine ∧ (a == sysModules) = false ∧ ∃ vs, KV kvs vs ∧ h.DictOf (mixKind P w) a vs :=
  show ObjOk P w H h a (.dK kvs) from rd_of ok e
theorem dk_of {kvs : List (Key × V)} (ok : HOk P w H h) (e : H a = some (.dK kvs)) : kvs.length ≤ sizeLine ∧ (a == sysModules) = false ∧ ∃ vs, KV kvs vs ∧ h.DictOf (mixKind P w) a vs := dk_rd ok (.inl e)
theorem key_of {ks : List Key} (ok : HOk P w H h) (e : H a = some (.tup (ks.map kV))) : (tupleKind (mixKind P w)).is h ks a := by
  obtain ⟨_, its, r, o, h1, h2, n, h3⟩ := (show ObjOk P w H h a (.tup (ks.map kV)) from ok a _ e)
  exact ⟨o, its.toArray, n, h1, h2, h3, by simpa using items_are r⟩
theorem dt_rd {kvs : List (List Key × V)} (ok : HOk P w H h) (e : Rd H a (.dT kvs)) : kvs.length ≤ sizeLine ∧ (a == sysModules) = false ∧
    ∃ xs, KT H kvs xs ∧ h.DictOfH (tupleKind (mixKind P w)) a xs := by
  obtain ⟨z, y, xs, r, o, es, ep, h1, h2, h3, h4, h5⟩ := (show ObjOk P w H h a (.dT kvs) from rd_of ok e)
  refine ⟨z, y, xs, r, o, es, ep, h1, h2, h3, h4, fun x hx => ?_, h5⟩
  have all : ∀ {l : List (List Key × V)} {m : List (List Key × Addr × Value)}, KT H l m → ∀ x ∈ m, (tupleKind (mixKind P w)).is h x.1 x.2.1 := by
    intro l m q
    induction q with
    | nil => intro x hx; exact nomatch hx
    | @cons p q ps qs hq t ih =>
      intro x hx
      rcases List.mem_cons.mp hx with e | hx
      · subst e
        exact key_of ok (by rw [← hq.1]; exact hq.2.1)
      · exact ih x hx
  exact all r x hx
theorem dt_of {kvs : List (List Key × V)} (ok : HOk P w H h) (e : H a = some (.dT kvs)) : kvs.length ≤ sizeLine ∧ (a == sysModules) = false ∧
    ∃ xs, KT H kvs xs ∧ h.DictOfH (tupleKind (mixKind P w)) a xs := dt_rd ok (.inl e)
end
def DGet (H : Hp) (a : Addr) (y : V) (r : Option V) : Prop :=
  (∃ kvs k, Rd H a (.dK kvs) ∧ y = kV k ∧ r = valV kvs k) ∨ ∃ kvs k b, Rd H a (.dT kvs) ∧ y = .ref b ∧ H b = some (.tup (k.map kV)) ∧ r = valV kvs k
def DPut (H : Hp) (a : Addr) (y v : V) (H' : Hp) : Prop :=
  (∃ kvs k, H a = some (.dK kvs) ∧ y = kV k ∧ kvs.length < sizeLine ∧ H' = upd H a (.dK (putK kvs k v))) ∨
  ∃ kvs k b, H a = some (.dT kvs) ∧ y = .ref b ∧ H b = some (.tup (k.map kV)) ∧ kvs.length < sizeLine ∧ H' = upd H a (.dT (putK kvs k v))
theorem DGet.k {H : Hp} {a : Addr} {kvs : List (Key × V)} {k : Key} (e : H a = some (.dK kvs)) : DGet H a (kV k) (valV kvs k) := .inl ⟨kvs, k, .inl e, rfl, rfl⟩
theorem DPut.k {H : Hp} {a : Addr} {kvs : List (Key × V)} {k : Key} {v : V} (e : H a = some (.dK kvs)) (hl : kvs.length < sizeLine) : DPut H a (kV k) v (upd H a (.dK (putK kvs k v))) := .inl ⟨kvs, k, e, rfl, hl, rfl⟩
section
variable {X : Cx} {pins : List (Addr × Obj)} {σ : St} {H : Hp} {s : Shared} {a : Addr} {y v : V} {u r : Value} {o : Option V} {A : Around} {E : Value → Shared → Prop}
theorem Inv.big (I : Inv X pins σ H s) : sysModules < s.heap.objs.size := by
  have h : mainGlobals < s.heap.objs.size := (I.mod.glob.keeps I.bk).lt
  exact Nat.lt_trans (by decide) h
theorem d_getItem {Q : Value → Shared → Prop} (hu : A.units + 1 < cLine) (I : Inv X pins σ H s) (g : DGet H a y (some v)) (ry : RelV y u) (h : ∀ w' s', Inv X pins σ H s' → RelV v w' → Q w' s') :
    wpAny (model X.prog X.w) A (getItem (.ref a) u) Q E s := by
  rcases g with ⟨kvs, k, e, ey, l⟩ | ⟨kvs, k, b, e, ey, eb, l⟩
  · subst ey
    obtain ⟨z, hd, vs, rel, dd⟩ := dk_rd I.hok e
    obtain ⟨w', hw, rw'⟩ := RelO.some_of (v := v) (o := valueAt vs k) (by rw [l]; exact rel.val k)
    exact wpAny_getItem_of (kV_is ry) dd.mapOf hw (h w' _ (I.tok _) rw')
  · subst ey
    cases (show u = Value.ref b from ry)
    obtain ⟨z, hd, xs, rel, dd⟩ := dt_rd I.hok e
    obtain ⟨w', hw, rw'⟩ := RelO.some_of (v := v) (o := (atKey xs k).map (·.2)) (by rw [l]; exact rel.val k)
    obtain ⟨p, hp, hp2⟩ := Option.map_eq_some_iff.mp hw
    refine wpAny_getItem_heap (tupleKind_room_in1 hu) (key_of I.hok eb) dd hp ?_
    rw [hp2]
    exact h w' _ (I.tok _) rw'
theorem d_notIn {Q : Value → Shared → Prop} (hu : A.units + 1 < cLine) (I : Inv X pins σ H s) (g : DGet H a y o) (ry : RelV y u) (h : ∀ s', Inv X pins σ H s' → Q (.bool (!o.isSome)) s') :
    wpAny (model X.prog X.w) A (compareOp .NotIn u (.ref a)) Q E s := by
  rcases g with ⟨kvs, k, e, ey, l⟩ | ⟨kvs, k, b, e, ey, eb, l⟩
  · subst ey
    obtain ⟨z, hd, vs, rel, dd⟩ := dk_rd I.hok e
    refine wpAny_notIn_of (kV_is ry) hd dd.mapOf ?_
    rw [← (rel.val k).isSome_eq, ← l]
    exact h _ (I.tok _)
  · subst ey
    cases (show u = Value.ref b from ry)
    obtain ⟨z, hd, xs, rel, dd⟩ := dt_rd I.hok e
    refine wpAny_notIn_heap (tupleKind_room_in1 hu) (key_of I.hok eb) hd dd ?_
    have q := (rel.val k).isSome_eq
    rw [Option.isSome_map] at q
    rw [← q, ← l]
    exact h _ (I.tok _)
theorem d_write {h' : Heap} {t' : Nat} {ob : HO} (I : Inv X pins σ H s) (mu : Mut (H a)) (hs : Heap.SameBut a s.heap h') (he : ∃ q, h'.get? a = some q) (new : ObjOk X.prog X.w (upd H a ob) h' a ob) :
    Inv X pins σ (upd H a ob) { s with heap := h', toks := t' } :=
  I.write (x := a) (e := a) mu (.inl rfl) (fun b q hb z => (hs.2 b hb).trans z) he new
theorem dk_new {P : Program} {w : World} {H' : Hp} {h' : Heap} {kvs : List (Key × V)} {vs : List (Key × Value)} (z : kvs.length ≤ sizeLine) (hd : (a == sysModules) = false) (rel : KV kvs vs) (dd : h'.DictOf (mixKind P w) a vs) :
    ObjOk P w H' h' a (.dK kvs) := ⟨z, hd, vs, rel, dd⟩
theorem d_setItem {H' : Hp} {Q : Unit → Shared → Prop} (hu : A.units + 1 < cLine) (I : Inv X pins σ H s) (g : DPut H a y v H') (ry : RelV y u) (rv : RelV v r) (h : ∀ s', Inv X pins σ H' s' → Q () s') :
    wpAny (model X.prog X.w) A (setItem (.ref a) u r) Q E s := by
  rcases g with ⟨kvs, k, e, ey, l, eH⟩ | ⟨kvs, k, b, e, ey, eb, l, eH⟩
  · subst ey eH
    obtain ⟨z, hd, vs, rel, dd⟩ := dk_of I.hok e
    have hz : vs.length ≤ sizeLine := by rw [← rel.length]; exact z
    have hl : (putK kvs k v).length ≤ sizeLine := by have := length_putK kvs k v; omega
    refine wpAny_setItem_pairs (hsz := hz) (kV_is ry) dd fun h' dd' hs => h _ ?_
    have he : ∃ q, h'.get? a = some q := let ⟨q, _, _, hq, _⟩ := dd'; ⟨q, hq⟩
    exact d_write I (by rw [e]; exact True.intro) hs he (dk_new hl hd (rel.put k rv) dd')
  · subst ey eH
    cases (show u = Value.ref b from ry)
    obtain ⟨z, hd, xs, rel, dd⟩ := dt_of I.hok e
    have hz : xs.length ≤ sizeLine := by rw [← Paired.length rel]; exact z
    have hl : (putK kvs k v).length ≤ sizeLine := by have := length_putK kvs k v; omega
    refine wpAny_setItem_heap (hsz := hz) (tupleKind_room_in1 hu) (key_of I.hok eb) dd fun h' dd' hs => h _ ?_
    obtain ⟨q, es, ep, hq, h2, h3, h4, _, h5⟩ := dd'
    refine d_write I (by rw [e]; exact True.intro) hs ⟨q, hq⟩ ⟨hl, hd, _, (rel.put k eb rv).keeps fun c ys ec => ?_, q, es, ep, hq, h2, h3, h4, h5⟩
    rw [upd_ne (ne_of ec e (fun z => nomatch z))]
    exact ec
end
def NoSl (i : Expr) : Prop := ∀ ov iv, subscripted i false ov iv = operate [ov, iv] (getItem ov iv)
theorem subD_of {prog : Program} {w : World} {A : Around} {E : Value → Shared → Prop} {s : Shared} {env : Env} {value slice : Expr} {pos : Pos} {T id : String} {Q : Value → Shared → Prop}
    (hl : typeLookup (.type T) "__getitem__" = pure (some (.builtin id))) (hs : NoSl slice)
    (h : wpAny (model prog w) A (eval value env) (fun o s₁ => wpAny (model prog w) A (eval slice env) (fun i s₂ => s₂.TypeIs o T ∧ wpAny (model prog w) A (getItem o i) Q E s₂) E s₁) E s) :
    wpAny (model prog w) A (eval (.Subscript value slice pos) env) Q E s := by
  refine Subscript_ (wpAny_mono h (fun o s₁ h₁ => wpAny_mono h₁ (fun i s₂ h₂ => ?_) fun _ _ x => x) fun _ _ x => x)
  obtain ⟨hT, h₂⟩ := h₂
  unfold subscriptTail
  refine wpAny_bind ?_
  rw [getitemInPython_of_ne hT.not_modules]
  refine wpAny_bind (wpAny_specialOf hT hl ?_)
  have fin : wpAny (model prog w) A (subscripted slice false o i) (fun r s₃ => wpAny (model prog w) A (letTemporaryGo value o r >>= fun _ => pure r) Q E s₃) E s₂ := by
    rw [hs o i]
    exact wpAny_operating (wpAny_mono h₂ (fun r s₃ h₃ => wpAny_bind (wpAny_letTemporaryGo (wpAny_pure h₃))) fun _ _ x => x)
  first
    | exact wpAny_pure (wpAny_bind fin)
    | exact wpAny_bind (wpAny_pure (wpAny_bind fin))
    | exact wpAny_bind fin
theorem dict_typeIs {X : Cx} {pins : List (Addr × Obj)} {σ : St} {H : Hp} {s : Shared} {a : Addr} {y : V} {o : Option V} (I : Inv X pins σ H s) (g : DGet H a y o) : s.TypeIs (.ref a) "dict" := by
  rcases g with ⟨kvs, k, e, _, _⟩ | ⟨kvs, k, b, e, _, _, _⟩
  · obtain ⟨_, _, vs, _, dd⟩ := dk_rd I.hok e
    exact dd.typeIs
  · obtain ⟨_, _, xs, _, dd⟩ := dt_rd I.hok e
    exact dd.typeIs
def tDGet (td ty : TE) : TE := fun σ H Q => td σ H fun x H1 => ty σ H1 fun y H2 => ∃ a v, x = .ref a ∧ DGet H2 a y (some v) ∧ Q v H2
def tDNotIn (ty td : TE) : TE := fun σ H Q => ty σ H fun y H1 => td σ H1 fun x H2 => ∃ a o, x = .ref a ∧ DGet H2 a y o ∧ Q (.bl (!o.isSome)) H2
def sDPut (td ty tv : TE) : TS := fun D σ H => tv σ H fun v H1 => td σ H1 fun x H2 => ty σ H2 fun y H3 => ∃ a H4, x = .ref a ∧ DPut H3 a y v H4 ∧ D.nx σ H4
section
variable {X : Cx} {o i e value : Expr} {pos pos' tpos : Pos} {td ty tv : TE}
theorem pe_dget (hu : X.A.units + 1 < cLine) (ho : PE X o td) (hi : PE X i ty) (hs : NoSl i) : PE X (.Subscript o i pos) (tDGet td ty) := by
  intro pins s σ H Q I h
  refine subD_of PySem.F.slot_dict_getitem.lookup hs (thn (ho pins s σ H _ I h) fun u s1 ⟨x, H1, I1, rx, q1⟩ => thn (hi pins s1 σ H1 _ I1 q1) fun iv s2 ⟨y, H2, I2, ry, a, v, ex, g, q2⟩ => ?_)
  subst ex
  obtain rfl : u = Value.ref a := rx
  exact ⟨dict_typeIs I2 g, d_getItem hu I2 g ry fun w' s3 I3 rw' => ⟨v, H2, I3, rw', q2⟩⟩
theorem pc_dnotin (hu : X.A.units + 1 < cLine) (hi : PE X i ty) (ho : PE X o td) : PC X .NotIn i o (tDNotIn ty td) := by
  intro pins s σ H Q I h
  refine thn (hi pins s σ H _ I h) fun iv s1 ⟨y, H1, I1, ry, q1⟩ => thn (ho pins s1 σ H1 _ I1 q1) fun u s2 ⟨x, H2, I2, rx, a, ov, ex, g, q2⟩ => ?_
  subst ex
  obtain rfl : u = Value.ref a := rx
  exact d_notIn hu I2 g ry fun s3 I3 => ⟨.bl (!ov.isSome), H2, I3, rfl, q2⟩
theorem ps_dput (hu : X.A.units + 1 < cLine) (ho : PE X o td) (hi : PE X i ty) (hv : PE X value tv) (hs : swapsWith value (some (.Subscript o i pos')) pos.line X.env = pure false) :
    PS X (.Assign [.Subscript o i pos'] value pos) (sDPut td ty tv) := by
  intro pins s σ H D I h
  refine wpAny_Assign_Subscript (thn (hv pins s σ H _ I h) fun r s1 ⟨v, H1, I1, rv, q1⟩ => thn (ho pins s1 σ H1 _ I1 q1) fun u s2 ⟨x, H2, I2, rx, q2⟩ => thn (hi pins s2 σ H2 _ I2 q2) fun iv s3 ⟨y, H3, I3, ry, a, H4, ex, g, q3⟩ => ?_) hs
  subst ex
  obtain rfl : u = Value.ref a := rx
  exact d_setItem hu I3 g ry rv fun s4 I4 => ⟨σ, H4, I4, q3⟩
end
theorem dk_empty {P : Program} {w : World} {H : Hp} (h : Heap) (hb : sysModules < h.objs.size) : ObjOk P w H (h.push { cls := .type "dict", data := .dict #[] }) h.objs.size (.dK []) :=
  ⟨Nat.zero_le _, beq_eq_false_iff_ne.mpr (Ne.symm (Nat.ne_of_lt hb)), [], .nil, Heap.DictOf.new h⟩
def tDNewK : TE := fun _ H Q => ∀ p, H p = none → Q (.ref p) (upd H p (.dK []))
section
variable {X : Cx} {pos : Pos}
theorem pe_dnewK : PE X (.Dict [] [] pos) tDNewK := fun pins s σ H Q I h =>
  wpAny_Dict_empty ⟨.ref s.heap.objs.size, _, I.laid (a := s.heap.objs.size) (o := .dK []) (t' := s.toks) (fun _ _ q => Heap.get?_push_of_some _ q) (Nat.le_refl _) (dk_empty s.heap I.big), rfl, h _ (I.hok.fresh (Nat.le_refl _))⟩
end
structure M1 (X : Cx) (o : Expr) (m : Str) (apos : Pos) (e : Expr) (cpos : Pos) : Prop where
  base : attributeBase o m X.env (eval o X.env) = eval o X.env
  few : ((backTo cpos (starEach [e] X.env)).all (fun x => !x.1) && (backToKw cpos (keywordEach [] X.env)).all (fun x => x.1.isSome)
    && decide (([e] : List Expr).length + ([] : List Keyword).length + (if ([] : List Keyword).isEmpty then 0 else 1) < 30)) = true
  line : (apos.endLine == cpos.line) = true
  trees : backTo cpos (starEach [e] X.env) = [(false, eval e X.env)]
end L2
namespace L2
open PySem PySem.Spec PyProof.Rows
section
variable {κ : Type} [DecidableEq κ]
theorem valV_not {kvs : List (κ × V)} {k : κ} (h : valV kvs k = none) : ¬ k ∈ kvs.map (·.1) := by
  intro m
  obtain ⟨p, hp, e⟩ := List.mem_map.mp m
  have q : (kvs.any fun kv => decide (kv.1 = k)) = true := List.any_eq_true.mpr ⟨p, hp, decide_eq_true e⟩
  rw [valV_any, h] at q
  exact absurd q (by simp)
end
end L2
namespace PySem
open Sem (wp)
end PySem
namespace L2
open PySem PySem.Spec PyProof.Rows PySem.Builtin
theorem RoomB.units1 {c : Bool} {k : Nat} {A : Around} (h : RoomB c k A) : A.units + 1 < cLine := Nat.lt_of_le_of_lt (by omega) h.units
end L2
namespace L2
open PySem PySem.Spec PyProof.Rows
end L2
namespace L2
open PySem PySem.Spec PyProof.Rows PySem.Builtin
section
variable {prog : Program} {w : World} {A : Around} {E : Value → Shared → Prop} {s : Shared}
def KeyAt (prog : Program) (w : World) (vs : List (Key × Value)) : Nat → Value → Prop := fun i v => ∃ k x, vs[i]? = some (k, x) ∧ (mixKind prog w).is k v = true
theorem dict_len_look : typeLookup (.type "dict") "__len__" = pure (some (.builtin "dict.__len__")) := by
  rw [typeLookup_type, builtinLookup_eq_fast]
  kernel_rfl
theorem extend_dict {R : PySem.Result → Shared → Prop} (hh : A.handled = none) {d : Addr} {vs : List (Key × Value)} {ep : Nat} (hd : (d == sysModules) = false) (hD : s.heap.DictAt (mixKind prog w) d vs ep) (S : Addr) (res : Value) (c₀ : Nat) (hS : s.heap.get? S = some { cls := .type "list", data := .seq #[] c₀ }) (hne : S ≠ d)
    (hR : ∀ h' tk acc' c', (∀ b o, b ≠ S → s.heap.get? b = some o → h'.get? b = some o) → h'.get? S = some { cls := .type "list", dict := none, data := .seq acc' c', slots := #[] } →
      ItemsOf (KeyAt prog w vs) acc' vs.length → R (.ok (.ret res)) { s with heap := h', toks := tk }) (hn : vs.length ≤ sizeLine) :
    wpAny (model prog w) A.in1 (Builtin.List.listExtendWith (.ref S) (.ref d) res)
      (fun fin s' => match fin with | .done f => R (.ok f) s' | .again c' => c'.quiet = true ∧ codeAny (model prog w) A c' R s') (fun e s' => R (.error e) s') s := by
  have hT : s.TypeIs (.ref d) "dict" := hD.dictOf.typeIs
  have hdI : d ≠ s.heap.objs.size := Nat.ne_of_lt hD.lt_size
  have hSI : S ≠ s.heap.objs.size := Nat.ne_of_lt (Heap.lt_size hS)
  have hSf : S ∉ [s.heap.objs.size, d] := fun hm => by
    rcases List.mem_cons.mp hm with h | h
    · exact hSI h
    · exact hne (List.mem_singleton.mp h)
  unfold Builtin.List.listExtendWith
  refine wpAny_bind (wpAny_typeOf hT ?_)
  have h1 : Builtin.List.listSameRef (.ref S) (.ref d) = false := by
    unfold Builtin.List.listSameRef
    simp [hne]
  have h2 : (Value.type "dict" == Value.type "list") = false := by decide
  have h3 : (Value.type "dict" == Value.type "tuple") = false := by decide
  simp only [h1, h2, h3, Bool.or_false, Bool.false_eq_true, if_false]
  refine wpAny_bind (wpAny_pyIter_dict hd hD ?_)
  have W := Walks.dictKeys (prog := prog) (w := w) (knd := mixKind prog w) (A := A.in1) hh s.heap.objs.size d hdI vs ep
  refine wpAny_bind (wpAny_holding ?_)
  unfold Builtin.List.listLengthHint
  have hD1 := hD.push { cls := .type "dict_keyiterator", data := .fields #[.ref d, .int 0 0, .int vs.length 0, .int ep 0] }
  have hT1 : ({ s with heap := s.heap.push { cls := .type "dict_keyiterator", data := .fields #[.ref d, .int 0 0, .int vs.length 0, .int ep 0] } } : Shared).TypeIs (.ref d) "dict" := hD1.dictOf.typeIs
  refine wpAny_bind (wpAny_specialOf hT1 dict_len_look ?_)
  wp_delta
  refine wpAny_bind (wpAny_isInstance (b := true) hT1 (by rw [isSubtype_type]; kernel_rfl) ?_)
  show wpAny _ _ (typeOf (Value.ref d) >>= _) _ _ _
  refine wpAny_bind (wpAny_typeOf hT1 ?_)
  refine wpAny_pure ?_
  show wpAny _ A.in1 (rule "list.extend.makes-room" >>= fun _ => Builtin.List.listTouch (.ref S) >>= fun _ =>
    again (.builtin "list.extend.loop" ⟨[.ref S, .ref s.heap.objs.size, res], []⟩)) _ _ _
  refine wpAny_bind (wpAny_rule ?_)
  refine wpAny_bind ?_
  show wpAny _ A.in1 (updateSeq S (·.push .none) >>= fun _ => updateSeq S (·.pop)) _ _ _
  have hS1 := Heap.get?_push_of_some { cls := .type "dict_keyiterator", data := .fields #[.ref d, .int 0 0, .int vs.length 0, .int ep 0] } hS
  have hI1 : (s.heap.push { cls := .type "dict_keyiterator", data := .fields #[.ref d, .int 0 0, .int vs.length 0, .int ep 0] }).IsKeyIter s.heap.objs.size d 0 vs.length ep := ⟨_, Heap.get?_push_size _ rfl, rfl, rfl⟩
  have kp : ∀ b o, s.heap.get? b = some o → (s.heap.push { cls := .type "dict_keyiterator", data := .fields #[.ref d, .int 0 0, .int vs.length 0, .int ep 0] }).get? b = some o := fun b o e => Heap.get?_push_of_some _ e
  generalize s.heap.push { cls := .type "dict_keyiterator", data := .fields #[.ref d, .int 0 0, .int vs.length 0, .int ep 0] } = h1 at hS1 hI1 hD1 kp ⊢
  refine wpAny_bind (wpAny_updateSeq hS1 rfl ?_)
  have hS₂ := Heap.get?_update_self (Obj.mapSeq (·.push Value.none)) hS1 rfl
  refine wpAny_updateSeq (hz := by seq_fits) hS₂ rfl ?_
  have hS₃ := Heap.get?_update_self (Obj.mapSeq (·.pop)) hS₂ rfl
  have oth : ∀ b o, b ≠ S → h1.get? b = some o → ((h1.update S (Obj.mapSeq (·.push Value.none))).update S (Obj.mapSeq (·.pop))).get? b = some o :=
    fun b o hb e => (Heap.get?_update_other _ _ (Ne.symm hb)).trans ((Heap.get?_update_other _ _ (Ne.symm hb)).trans e)
  refine wpAny_pure ⟨plainId_quiet PySem.F.plain_extend_loop _, codeAny_extend_loopS W.toS hn _ hSf _ vs.length 0 _ _ _ rfl (Nat.zero_le _) ⟨hI1.at fun o e => oth _ o (Ne.symm hSI) e, hD1.at' fun o e => oth _ o (Ne.symm hne) e⟩ hS₃ (ItemsOf.nil _) fun s' acc' c' hm hS' hacc => ?_⟩
  rw [Moved.eq_with hm]
  refine hR s'.heap s'.toks acc' c' (fun b ob hb e => hm.heap b ob (fun hmem => ?_) (oth b ob hb (kp b ob e))) hS' hacc
  rcases List.mem_cons.mp hmem with e' | hmem
  · exact hb e'
  · exact absurd (Heap.lt_size e) (by rw [List.mem_singleton.mp hmem]; exact Nat.lt_irrefl _)
theorem init_dict {R : PySem.Result → Shared → Prop} (hh : A.handled = none) {d : Addr} {vs : List (Key × Value)} {ep : Nat} (hd : (d == sysModules) = false) (hD : s.heap.DictAt (mixKind prog w) d vs ep) (S : Addr) (hS : s.heap.get? S = some { cls := .type "list", data := .seq #[] }) (hne : S ≠ d)
    (hR : ∀ h' tk acc' c', (∀ b o, b ≠ S → s.heap.get? b = some o → h'.get? b = some o) → h'.get? S = some { cls := .type "list", dict := none, data := .seq acc' c', slots := #[] } →
      ItemsOf (KeyAt prog w vs) acc' vs.length → R (.ok (.ret .none)) { s with heap := h', toks := tk }) (hn : vs.length ≤ sizeLine) :
    wpAny (model prog w) A.in1 (Builtin.«list.__init__» ⟨[.ref S, .ref d], []⟩)
      (fun fin s' => match fin with | .done f => R (.ok f) s' | .again c' => c'.quiet = true ∧ codeAny (model prog w) A c' R s') (fun e s' => R (.error e) s') s := by
  show wpAny _ _ (do let old ← Builtin.List.listItems (.ref S); Builtin.List.listUpdate (.ref S) (fun _ => #[]); letGo old.toList.reverse; Builtin.List.listExtendWith (.ref S) (.ref d) .none) _ _ s
  refine wpAny_bind ?_
  unfold Builtin.List.listItems
  refine wpAny_bind (wpAny_seqItems hS rfl (wpAny_pure ?_))
  show wpAny _ _ (updateSeq S (fun _ => #[]) >>= fun _ => letGo (#[] : Array Value).toList.reverse >>= fun _ => Builtin.List.listExtendWith (.ref S) (.ref d) .none) _ _ s
  refine wpAny_bind (wpAny_updateSeq hS rfl ?_)
  have hS₂ := Heap.get?_update_self (Obj.mapSeq (fun _ => (#[] : Array Value))) hS rfl
  have oth : ∀ b o, b ≠ S → s.heap.get? b = some o → (s.heap.update S (Obj.mapSeq (fun _ => (#[] : Array Value)))).get? b = some o :=
    fun b o hb e => (Heap.get?_update_other _ _ (Ne.symm hb)).trans e
  have hD2 : (s.heap.update S (Obj.mapSeq (fun _ => (#[] : Array Value)))).DictAt (mixKind prog w) d vs ep := by
    obtain ⟨o, es, ho, r⟩ := hD
    exact ⟨o, es, oth d o (Ne.symm hne) ho, r⟩
  refine wpAny_bind (wpAny_letGo ?_)
  refine extend_dict (s := { s with heap := s.heap.update S (Obj.mapSeq (fun _ => (#[] : Array Value))) }) hh hd hD2 S .none _ hS₂ hne (fun h' tk acc' c' hk hS' hacc => ?_) hn
  exact hR h' tk acc' c' (fun b o hb e => hk b o hb (oth b o hb e)) hS' hacc
theorem call_list_dict {Q : Value → Shared → Prop} (hh : A.handled = none) {d : Addr} {vs : List (Key × Value)} {ep : Nat} (hd : (d == sysModules) = false) (hD : s.heap.DictAt (mixKind prog w) d vs ep)
    (hQ : ∀ h' tk acc' c', (∀ b o, s.heap.get? b = some o → h'.get? b = some o) →
      h'.get? s.heap.objs.size = some { cls := .type "list", dict := none, data := .seq acc' c', slots := #[] } → ItemsOf (KeyAt prog w vs) acc' vs.length → Q (.ref s.heap.objs.size) { s with heap := h', toks := tk }) (hn : vs.length ≤ sizeLine) :
    wpAny (model prog w) A (call (.type "list") [.ref d]) Q E s := by
  refine callType_codes (Q₁ := fun obj s₁ => obj = .ref s.heap.objs.size ∧ s₁ = { s with heap := s.heap.push { cls := .type "list", data := .seq #[] } }) PySem.F.called_list (PySem.F.typeCall_list_1 _) PySem.F.entry_list_init
    (code_list_new _ ⟨rfl, rfl⟩) fun obj s₁ h₁ => ?_
  obtain ⟨rfl, rfl⟩ := h₁
  have hS : (s.heap.push { cls := .type "list", data := .seq #[] }).get? s.heap.objs.size = some { cls := .type "list", data := .seq #[] } := Heap.get?_push_size _ rfl
  refine ⟨⟨_, hS, rfl⟩, PySem.F.args_list_init_2 _ _, init_dict (A := A.in1) hh hd (hD.push _) _ hS (Ne.symm (Nat.ne_of_lt hD.lt_size)) (fun h' tk acc' c' hk hS' hacc => ?_) hn⟩
  exact ⟨rfl, hQ h' tk acc' c' (fun b o e => hk b o (Nat.ne_of_lt (Heap.lt_size e)) (Heap.get?_push_of_some _ e)) hS' hacc⟩
end
section
variable {X : Cx}
theorem rel_key {prog : Program} {w : World} {k : Key} {v : Value} (h : (mixKind prog w).is k v = true) : RelV (kV k) v := by
  rcases keyIs_shape h with ⟨i, t, rfl, rfl⟩ | ⟨x, t, rfl, rfl⟩
  · exact ⟨t, rfl⟩
  · exact ⟨t, rfl⟩
theorem keys_vals {prog : Program} {w : World} {kvs : List (Key × V)} {vs : List (Key × Value)} {acc : Array Value} (r : KV kvs vs) (ia : ItemsOf (KeyAt prog w vs) acc vs.length) : Vals (kvs.map fun kv => kV kv.1) acc.toList := by
  have hl : acc.size = vs.length := ia.1
  have hk := r.keys
  have e : kvs.map (fun kv => kV kv.1) = vs.map fun kv => kV kv.1 := by
    have h1 : kvs.map (fun kv => kV kv.1) = (kvs.map (·.1)).map kV := by rw [List.map_map]; rfl
    have h2 : vs.map (fun kv => kV kv.1) = (vs.map (·.1)).map kV := by rw [List.map_map]; rfl
    rw [h1, h2, hk]
  rw [e]
  have gen : ∀ (ws : List (Key × Value)) (us : List Value), us.length = ws.length → (∀ i v, us[i]? = some v → KeyAt prog w ws i v) → Vals (ws.map fun kv => kV kv.1) us := by
    intro ws
    induction ws with
    | nil => intro us h _; cases us with | nil => exact .nil | cons _ _ => cases h
    | cons p ws ih =>
      intro us h hi
      cases us with
      | nil => cases h
      | cons u us =>
        obtain ⟨k, x, hx, hk⟩ := hi 0 u rfl
        cases hx
        exact .cons (rel_key hk) (ih us (by simpa using h) fun i v hv => by
          obtain ⟨k', x', hx', hk'⟩ := hi (i + 1) v hv
          exact ⟨k', x', hx', hk'⟩)
  exact gen vs acc.toList (by rw [Array.length_toList]; exact hl) fun i v hv => ia.2 i v (by rw [← Array.getElem?_toList]; exact hv)
theorem call_listD (hc : X.calm = true) : CallR X (.type "list") (fun xs H Q => ∃ (a : Addr) (kvs : List (Key × V)), xs = [.ref a] ∧ Rd H a (.dK kvs) ∧ ∀ p, H p = none → Q (.ref p) (upd H p (.lst (kvs.map fun kv => kV kv.1)))) := by
  intro pins s σ H xs us Q I r h
  obtain ⟨a, kvs, rfl, ha, q⟩ := h
  obtain ⟨u, rfl, ru⟩ := vals1 r
  cases ru
  obtain ⟨hz, hs, vs, kv, dd⟩ := dk_rd I.hok ha
  obtain ⟨ep, dat⟩ := dd.dictAt
  refine call_list_dict (I.ok.hd hc) hs dat (fun h' tk acc' c' hk hS' hacc => ?_) (by rw [← kv.length]; exact hz)
  have hv := keys_vals kv hacc
  refine ⟨.ref s.heap.objs.size, _, I.laid (o := .lst (kvs.map fun kv => kV kv.1)) hk (Nat.le_refl _) ?_, rfl, q _ I.fresh⟩
  exact ⟨by rw [List.length_map]; exact hz, acc'.toList, c', hv, by rw [hS']⟩
end
end L2
namespace L2
open PySem PySem.Spec PyProof.Rows PySem.Builtin
def Itd (d : Addr) (kvs : List (Key × V)) (o : Obj) : It :=
  ⟨fun i H => i < kvs.length ∧ H d = some (.frz o (.dK kvs)), fun i H x H' => H' = H ∧ ∃ k v, kvs[i]? = some (k, v) ∧ x = kV k, fun i H => kvs.length ≤ i ∧ H d = some (.frz o (.dK kvs))⟩
section
variable {X : Cx} {tg : Expr}
theorem frz_at {pins : List (Addr × Obj)} {σ : St} {H : Hp} {s : Shared} {d : Addr} {o : Obj} {kvs : List (Key × V)} {es : Array DictEntry} {ep : Nat} (I : Inv X pins σ H s) (h : H d = some (.frz o (.dK kvs))) (he : o.data = .dict es ep) :
    ∃ vs, KV kvs vs ∧ kvs.length ≤ sizeLine ∧ (d == sysModules) = false ∧ s.heap.DictAt (mixKind X.prog X.w) d vs ep := by
  obtain ⟨e, z, hs, vs, kv, o', es', ep', ho, hx, hd, hk, hp, hn⟩ := I.hok d _ h
  have : o' = o := by rw [e] at ho; cases ho; rfl
  subst this
  rw [he] at hd
  cases hd
  exact ⟨vs, kv, z, hs, _, _, ho, hx, he, hk, hp, hn⟩
theorem KV.key_at {kvs : List (Key × V)} {vs : List (Key × Value)} {i : Nat} {k : Key} {x : Value} (r : KV kvs vs) (h : vs[i]? = some (k, x)) : ∃ v, kvs[i]? = some (k, v) := by
  have hk := r.keys
  have h1 : (kvs.map (·.1))[i]? = some k := by rw [hk, List.getElem?_map, h]; rfl
  rw [List.getElem?_map] at h1
  cases e : kvs[i]? with
  | none => rw [e] at h1; cases h1
  | some p =>
    rw [e] at h1
    obtain ⟨a, b⟩ := p
    cases h1
    exact ⟨b, rfl⟩
theorem turn_dict {P : Program} {w : World} {K : PySem.W.Frag} (d it : Addr) (kvs : List (Key × V)) (o : Obj) {es : Array DictEntry} {ep : Nat} (he : o.data = .dict es ep) : Turn P w K tg (Itd d kvs o) [it] it (fun i h => h.IsKeyIter it d i kvs.length ep) where
  mem := by simp
  obj := fun i h st b hb => by
    have e : b = it := by simpa using hb
    subst e
    obtain ⟨o, e, c, d⟩ := st
    exact ⟨o, e, fun v z => by rw [d] at z; cases z⟩
  keep := fun i h h' st k => st.at fun o e => k it (by simp) o e
  item := by
    intro X hP hw hK hc i pins s σ H E I hf st hg
    subst hP hw hK
    obtain ⟨hi, hfz⟩ := hg
    obtain ⟨vs, kv, z, hs, dat⟩ := frz_at I hfz he
    obtain ⟨f0, f1, f2, f3, f4, f5⟩ := hf it (by simp)
    have hl := kv.length
    rw [hl] at st hi
    obtain ⟨⟨k, x⟩, hx⟩ : ∃ p, vs[i]? = some p := ⟨vs[i], by simp [hi]⟩
    obtain ⟨v, hv⟩ := kv.key_at hx
    refine wpAny_pyNext_dict_item st dat hx fun key h' hkey hit' hs' => ?_
    have I1 : Inv X pins σ H { s with heap := h' } := I.turned (t' := s.toks) (fun b o hb e => hs'.extBut b o hb e) f0 f1 f3 f4 f5
    obtain ⟨o', e, c, dd⟩ := id hit'
    exact ⟨key, rfl, go_of (s := { s with heap := h' }) e c dd (by decide) ⟨kV k, H, I1, rel_key hkey, ⟨rfl, k, v, hv, rfl⟩, by rw [hl]; exact hit', fun b hb => (hf b hb).1⟩⟩
  done := by
    intro X hP hw hK hc i pins s σ H E I hf st hg
    subst hP hw hK
    obtain ⟨hi, hfz⟩ := hg
    obtain ⟨vs, kv, z, hs, dat⟩ := frz_at I hfz he
    obtain ⟨f0, f1, f2, f3, f4, f5⟩ := hf it (by simp)
    have hl := kv.length
    rw [hl] at st hi
    exact wpAny_pyNext_dict_end (I.ok.hd hc) st dat (by simp; omega) fun h' eb => ⟨rfl, I.turned (t' := s.toks) (fun b o hb e => eb b o hb e) f0 f1 f3 f4 f5⟩
  self := fun _ _ _ _ _ st h => wpAny_pyIter_keyiter st h
def iDictF (i : Nat) (d : Addr) (kvs : List (Key × V)) (o : Obj) : TI := fun σ H R => σ[i]? = some (some (.ref d)) ∧ H d = some (.frz o (.dK kvs)) ∧ R (Itd d kvs o) H
theorem pi_dictF {l : Expr} {i : Nat} (hl : PE X l (tVar i)) (d : Addr) (kvs : List (Key × V)) (o : Obj) {es : Array DictEntry} {ep : Nat} (he : o.data = .dict es ep) : PI X tg l (iDictF i d kvs o) := by
  intro pins s σ H R I h
  obtain ⟨e, hf, q⟩ := h
  refine thn (hl pins s σ H (fun v H1 => v = .ref d ∧ H1 = H) I ⟨_, e, rfl, rfl⟩) fun v s1 ⟨x, H1, I1, r1, q1⟩ => ?_
  obtain ⟨rfl, rfl⟩ := q1
  cases r1
  obtain ⟨vs, kv, z, hs, dat⟩ := frz_at I1 hf he
  refine wpAny_pyIter_dict hs dat ?_
  refine ⟨s1.heap.objs.size, [s1.heap.objs.size], _, _, H1, rfl, I1.kept (t' := s1.toks) fun b o e => Heap.get?_push_of_some _ e, turn_dict d _ kvs o he, ⟨_, Heap.get?_push_size _ rfl, rfl, by rw [kv.length]; rfl⟩, fun b hb => ?_, q⟩
  have e : b = s1.heap.objs.size := by simpa using hb
  subst e
  exact I1.fpOk (Nat.le_refl _) (I1.hok.fresh (Nat.le_refl _))
theorem Inv.thaw {pins : List (Addr × Obj)} {σ : St} {H : Hp} {s : Shared} {d : Addr} {o : Obj} {kvs : List (Key × V)} (I : Inv X pins σ H s) (h : H d = some (.frz o (.dK kvs))) (nf : ∀ ob u, X.H₀ d ≠ some (.frz ob u)) : Inv X pins σ (upd H d (.dK kvs)) s := by
  have ne : ∀ b, H b = none → b ≠ d := fun b e z => by rw [z, h] at e; cases e
  refine ⟨I.ok, I.os, I.bare, ⟨I.base.keep, I.base.slot, fun b ob q n hx => ?_, I.base.there, fun b xs e => ?_, fun b ob u e => ?_, fun b ps e => ?_⟩, I.loc, I.cell, ?_, fun x c e => ?_, fun p hp => ?_, fun a u e => ?_, I.len⟩
  · have := I.base.free b ob q n hx
    rw [upd_ne (ne b this)]
    exact this
  · have := I.base.tups b xs e
    rw [upd_ne (fun z => by rw [z, h] at this; cases this)]
    exact this
  · have := I.base.frzs b ob u e
    rw [upd_ne (fun z => nf ob u (by rw [← z]; exact e))]
    exact this
  · obtain ⟨more, this⟩ := I.base.tbls b ps e
    exact ⟨more, by rw [upd_ne (fun z => by rw [z, h] at this; cases this)]; exact this⟩
  · rw [upd_ne (ne _ I.free)]
    exact I.free
  · rw [upd_ne (ne _ (I.freeC x c e))]
    exact I.freeC x c e
  · obtain ⟨a, b, c⟩ := I.pin p hp
    exact ⟨a, by rw [upd_ne (ne _ b)]; exact b, c⟩
  · have go : ∀ {v : HO}, ObjOk X.prog X.w H s.heap a v → ObjOk X.prog X.w (upd H d (.dK kvs)) s.heap a v := fun x => x.stay (fun _ _ _ q => q) (fun b q => by rw [upd_ne (fun z => by rw [z, h] at q; cases q)]; exact q) fun b xs q => by rw [upd_ne (fun z => by rw [z, h] at q; cases q)]; exact q
    by_cases z : a = d
    · subst z
      rw [upd_same] at e
      cases e
      exact go (I.hok a _ h).2
    · rw [upd_ne z] at e
      exact go (I.hok a u e)
def tForD (i : Nat) (g : TG) (tb : TS) : TS := fun D σ H => ∃ d kvs, σ[i]? = some (some (.ref d)) ∧ H d = some (.dK kvs) ∧ ∀ o : Obj, tFor (iDictF i d kvs o) g tb { D with nx := fun σ' H' => H' d = some (.frz o (.dK kvs)) ∧ D.nx σ' (upd H' d (.dK kvs)) } σ (upd H d (.frz o (.dK kvs)))
theorem ps_forD {iter : Expr} {i : Nat} {body : List Stmt} {g : TG} {tb : TS} {pos : Pos} (hp : PassesOwn (model X.prog X.w) X.A X.env X.xe) (hc : X.calm = true) (hl : PE X iter (tVar i)) (hg : PG X tg g) (hb : PSs X body tb)
    (hs : ∀ x, foldedSetIterable iter X.env x = pure x := by intro _; rfl) : PS X (.For tg iter body [] pos) (tForD i g tb) := by
  intro pins s σ H D I h
  obtain ⟨d, kvs, e, hd, h⟩ := h
  obtain ⟨z, hs', vs, kv, o, es, ep, ho, hx, he, hk, hp', hn⟩ := I.hok d _ hd
  have nf : ∀ ob u, X.H₀ d ≠ some (.frz ob u) := fun ob u q => by
    have := I.base.frzs d ob u q
    rw [hd] at this
    cases this
  have I1 : Inv X pins σ (upd H d (.frz o (.dK kvs))) { s with heap := s.heap, toks := s.toks } := I.write (x := d) (e := d) (o := .frz o (.dK kvs)) (t' := s.toks) (h' := s.heap) (by rw [hd]; trivial) (.inl rfl) (fun b u _ e => e) ⟨_, ho⟩ ⟨ho, z, hs', vs, kv, o, es, ep, ho, hx, he, hk, hp', hn⟩
  refine thn (ps_for hp hc (pi_dictF hl d kvs o he) hg hb hs pins s σ _ _ I1 (h o)) fun f s1 q => ?_
  cases f with
  | next =>
    obtain ⟨σ', H', I', hz, q⟩ := q
    exact ⟨σ', _, I'.thaw hz nf, q⟩
  | cont => exact q
  | brk => exact q
  | ret v => exact q
theorem for_dict {i : Nat} {d : Addr} {kvs : List (Key × V)} {g : TG} {tb : TS} {D : Ends} {σ : St} {H : Hp} (hσ : σ[i]? = some (some (.ref d))) (hd : H d = some (.dK kvs)) (Pv : Obj → Nat → St → Hp → Prop) (h0 : ∀ o, Pv o 0 σ (upd H d (.frz o (.dK kvs))))
    (hl : ∀ o j σ H, j ≤ kvs.length → Pv o j σ H → H d = some (.frz o (.dK kvs)))
    (hs : ∀ o j k v σ H, kvs[j]? = some (k, v) → Pv o j σ H → g (kV k) σ H fun σ2 H2 => tb { D with nx := Pv o (j + 1), ct := Pv o (j + 1), bk := fun σ' H' => H' d = some (.frz o (.dK kvs)) ∧ D.nx σ' (upd H' d (.dK kvs)) } σ2 H2)
    (hq : ∀ o σ H, Pv o kvs.length σ H → D.nx σ (upd H d (.dK kvs))) : tForD i g tb D σ H := by
  refine ⟨d, kvs, hσ, hd, fun o => ⟨hσ, upd_same, fun i m σ H => m = kvs.length - i ∧ i ≤ kvs.length ∧ Pv o i σ H, ⟨kvs.length, by simp, Nat.zero_le _, h0 o⟩, ?_⟩⟩
  rintro i m σ H ⟨rfl, hi, p⟩
  have hz := hl o i σ H hi p
  by_cases hlt : i < kvs.length
  · refine .inr ⟨⟨hlt, hz⟩, Pv o (i + 1), fun σ' H' p' => ⟨kvs.length - (i + 1), by omega, rfl, hlt, p'⟩, fun x H' y => ?_⟩
    obtain ⟨e, k, v, hv, rfl⟩ := y
    subst e
    exact hs o i k v σ _ hv p
  · have e : i = kvs.length := by omega
    subst e
    exact .inl ⟨⟨Nat.le_refl _, hz⟩, hz, hq o σ H p⟩
end
section
variable {X : Cx}
theorem strsAre_of2 : ∀ {ss : List Str} {us : List Value}, Vals (ss.map V.str) us → StrsAre us ss
  | [], _, r => by cases r; exact .nil
  | x :: ss, _, r => by
    cases r with
    | cons a b =>
      obtain ⟨t, rfl⟩ := a
      exact .cons x t (strsAre_of2 b)
theorem vals_strs2 : ∀ {us : List Value} {ss : List Str}, StrsAre us ss → Vals (ss.map V.str) us
  | _, _, .nil => .nil
  | _, _, .cons x t h => .cons ⟨t, rfl⟩ (vals_strs2 h)
theorem call_sortedS : CallR X (.builtin "sorted") (fun xs H Q => ∃ (a : Addr) (ss : List Str), xs = [.ref a] ∧ SqL X.K H a (ss.map V.str) ∧ ss.length < 64 ∧ ∀ (p : Addr) (zs : List Str), H p = none → zs.Perm ss → Q (.ref p) (upd H p (.lst (zs.map V.str)))) := by
  intro pins s σ H xs us Q I r h
  obtain ⟨a, ss, rfl, ha, h64, q⟩ := h
  obtain ⟨u, rfl, ru⟩ := vals1 r
  cases ru
  obtain ⟨its, rv, p, hz⟩ := I.list ha
  have hS := strsAre_of2 rv
  have hl : its.length = ss.length := by have := rv.length; rw [List.length_map] at this; exact this.symm
  refine sorted_strs p.isList hS (by rw [hl]; exact h64) fun out ss' a1 a2 a3 => ?_
  obtain ⟨e, he⟩ := sortedAll_at s.heap its out
  have kp : ∀ b o, s.heap.get? b = some o → (sortedAll s.heap its out).get? b = some o := fun b o e => sortedAll_old e
  refine ⟨.ref (s.heap.objs.size + 1), _, I.laid (t' := s.toks) (o := .lst (ss'.map V.str)) kp (Nat.le_succ _) ?_, rfl, q _ ss' (I.hok.fresh (Nat.le_succ _)) a2⟩
  exact ⟨by rw [List.length_map, a2.length_eq]; exact Nat.le_trans (Nat.le_of_lt h64) (by decide), out.toList, e, vals_strs2 a1, by rw [he]⟩
end
end L2
namespace L2
open PySem PySem.Spec PyProof.Rows PySem.Builtin
structure DKG (P : Program) (w : World) (K : PySem.W.Frag) (a : Addr) (kvs : List (Key × V)) : Prop where
  ex : ∃ (vs : List (Key × Value)) (o : Obj) (es : Array DictEntry) (ep : Nat), KV kvs vs ∧ K.lookup a = some o ∧ o.ExactDict ∧ o.data = .dict es ep ∧ KeysOf (mixKind P w) es ∧ Pairs (mixKind P w) es.toList vs ∧ (vs.map (·.1)).Nodup
  ns : (a == sysModules) = false
section
variable {X : Cx} {pins : List (Addr × Obj)} {σ : St} {H : Hp} {s : Shared} {a : Addr} {kvs : List (Key × V)}
theorem DKG.dd (I : Inv X pins σ H s) (g : DKG X.prog X.w X.K a kvs) : ∃ vs, KV kvs vs ∧ s.heap.DictOf (mixKind X.prog X.w) a vs := by
  obtain ⟨vs, o, es, ep, kv, l, ex, hd, hk, hp, hn⟩ := g.ex
  exact ⟨vs, kv, o, es, ep, I.kIn _ _ l, ex, hd, hk, hp, hn⟩
def tDGetG (P : Program) (w : World) (K : PySem.W.Frag) (td ty : TE) : TE := fun σ H Q => td σ H fun x H1 => ty σ H1 fun y H2 => ∃ a kvs k v, x = .ref a ∧ DKG P w K a kvs ∧ y = kV k ∧ valV kvs k = some v ∧ Q v H2
def tDGet1G (P : Program) (w : World) (K : PySem.W.Frag) (td ty : TE) : TE := fun σ H Q => td σ H fun x H1 => ∃ a kvs, x = .ref a ∧ DKG P w K a kvs ∧ ty σ H1 fun y H2 => ∃ k, y = kV k ∧ Q ((valV kvs k).getD .non) H2
end
section
variable {X : Cx} {o i e : Expr} {es : List Expr} {pos apos cpos : Pos} {td ty tf : TE} {t : TA} {E : XK}
theorem pe_dgetG (ho : PE X o td) (hi : PE X i ty) (hs : NoSl i) : PE X (.Subscript o i pos) (tDGetG X.prog X.w X.K td ty) := by
  intro pins s σ H Q I h
  refine subD_of PySem.F.slot_dict_getitem.lookup hs (thn (ho pins s σ H _ I h) fun u s1 ⟨x, H1, I1, rx, q1⟩ => thn (hi pins s1 σ H1 _ I1 q1) fun iv s2 ⟨y, H2, I2, ry, a, kvs, k, v, ex, g, ey, l, q2⟩ => ?_)
  subst ex
  subst ey
  obtain rfl : u = Value.ref a := rx
  obtain ⟨vs, rel, dd⟩ := g.dd I2
  obtain ⟨w', hw, rw'⟩ := RelO.some_of (v := v) (o := valueAt vs k) (by rw [← l]; exact rel.val k)
  exact ⟨dd.typeIs, wpAny_getItem_of (kV_is ry) dd.mapOf hw ⟨v, H2, I2.tok _, rw', q2⟩⟩
theorem pe_dget1G (ho : PE X o td) (he : PE X e ty) (m : M1 X o "get" apos e cpos) : PE X (.Call (.Attribute o "get" apos) [e] [] cpos) (tDGet1G X.prog X.w X.K td ty) := by
  intro pins s σ H Q I h
  refine wpAny_Call_method m.base m.few m.line PySem.F.plainAttrs_dict PySem.F.slot_dict_get PySem.F.type_dict_get (thn (ho pins s σ H _ I h) fun u s1 ⟨x, H1, I1, rx, a, kvs, ex, g, q1⟩ => ?_)
  subst ex
  obtain rfl : u = Value.ref a := rx
  obtain ⟨vs1, rel1, dd1⟩ := g.dd I1
  refine ⟨dd1.typeIs, (fun b q => ?_), ?_⟩
  · cases q
    obtain ⟨ob, _, _, h1, h2, _⟩ := dd1
    exact ⟨ob, h1, h2.2.1⟩
  rw [m.trees]
  refine Calls.callWith_builtin rfl (Calls.evalArgs_plain (Calls.spliced_cons (thn (he pins s1 σ H1 _ I1 q1) fun iv s2 ⟨y, H2, I2, ry, k, ey, q2⟩ => Calls.spliced_nil ?_)))
  subst ey
  obtain ⟨vs, rel, dd⟩ := g.dd I2
  exact call_meetsIn PySem.F.slot_dict_get dd.typeIs PySem.F.entry_dict_get (PySem.F.args_dict_get_2 _ _) (meets_dict_get (mixKind X.prog X.w) a (kV_is ry) g.ns) ⟨_, dd.mapOf, ⟨(valV kvs k).getD .non, H2, I2.tok _, (rel.val k).getD (show RelV .non Value.none from rfl), q2⟩⟩
def tCallS (P : Program) (w : World) (K : PySem.W.Frag) (mg : Str → Option Value) (base : Heap) (A : Around) (E : XK) (tf : TE) (t : TA) : TE := fun σ H Q => tf σ H fun x H1 => ∃ (f : Addr) (fd : FuncData) (m : Nat) (ps : List Str) (sp : Sp), x = .ref f ∧ FnB P w K mg base true m f fd ps sp ∧ PySem.W.keepIn K (.ref f) = true ∧ Binds K fd ps [] ∧ RoomB true m A ∧ t σ H1 fun vs H2 => sp (vs ++ []) H2 Q E
theorem pe_callS (hx : Passes (CX1 X.prog X.w) X E) (hf : PE X o tf) (ha : PA X (e :: es) t)
    (he : starEach (e :: es) X.env = (false, eval e X.env) :: starEach es X.env := by rfl) (hpl : (backTo pos (starEach es X.env)).any (·.1) = false := by rfl)
    (hc : eval (.Call o (e :: es) [] pos) X.env = (do callWith pos (← eval o X.env) [] (backTo pos (starEach (e :: es) X.env)) (backToKw pos (keywordEach [] X.env))) := by rfl) :
    PE X (.Call o (e :: es) [] pos) (tCallS X.prog X.w X.K X.mg X.base X.A E tf t) := by
  intro pins s σ H Q I h
  refine Call_ (thn (hf pins s σ H _ I h) fun u s1 ⟨x, H1, I1, rx, f, fd, m, ps, sp, ex, F, hk, hb, hr, q⟩ => ?_) hc
  subst ex
  obtain rfl : u = Value.ref f := rx
  refine PySem.W.callWith_K (h₀ := X.base) I.ok.mod.kin hk (thn (ha pos pins s1 σ H1 _ I1 q) fun us s2 ⟨vs, H2, I2, r, q2⟩ => ⟨I2.kIn, ?_⟩) he hpl
  exact run_fnB F hr hb I2 r q2 fun e s' h => hx pins σ H2 s2 e s' I2 h
end
end L2
namespace Tx
open PySem PySem.Builtin PySem.Builtin.Str PySem.StrLaws
theorem occ_pre (s sub : Str) (hi L : Nat) : ∀ (l : List Nat) (st : Array Nat × Nat), ∃ more, (forIn l st (occBody s sub hi L)).run.fst.toList = st.fst.toList ++ more
  | [], st => ⟨[], by simp⟩
  | a :: l, st => by
    rw [List.forIn_cons]
    unfold occBody
    split
    · obtain ⟨more, h⟩ := occ_pre s sub hi L l (st.fst.push a, a + sub.length)
      exact ⟨a :: more, by
        have h' : (forIn l (st.fst.push a, a + sub.length) (occBody s sub hi L)).run.fst.toList = st.fst.toList ++ (a :: more) := by rw [h]; simp
        exact h'⟩
    · exact occ_pre s sub hi L l (st.fst, st.snd)
theorem occ_full (s sub : Str) (hi k : Nat) : ∀ (l : List Nat) (st : Array Nat × Nat), k ≤ st.fst.size → (forIn l st (occBody s sub hi k)).run.fst = st.fst
  | [], st, _ => rfl
  | a :: l, st, h => by
    rw [List.forIn_cons]
    unfold occBody
    rw [if_neg (fun z => by have := z.1.1.1; omega)]
    exact occ_full s sub hi k l (st.fst, st.snd) h
theorem occ_takes (s sub : Str) (hi : Nat) {k L : Nat} (kL : k ≤ L) : ∀ (l : List Nat) (st : Array Nat × Nat), st.fst.size ≤ k → (forIn l st (occBody s sub hi k)).run.fst.toList = (forIn l st (occBody s sub hi L)).run.fst.toList.take k
  | [], st, h => by
    show st.fst.toList = st.fst.toList.take k
    rw [List.take_of_length_le (by rw [Array.length_toList]; exact h)]
  | a :: l, st, h => by
    by_cases e : st.fst.size = k
    · rw [occ_full s sub hi k (a :: l) st (by omega)]
      obtain ⟨more, hm⟩ := occ_pre s sub hi L (a :: l) st
      rw [hm, List.take_left' (by rw [Array.length_toList]; exact e)]
    · have lt : st.fst.size < k := by omega
      rw [List.forIn_cons, List.forIn_cons]
      unfold occBody
      by_cases c : (st.snd ≤ a ∧ a + sub.length ≤ hi) ∧ subAt s sub a = true
      · rw [if_pos ⟨⟨⟨lt, c.1.1⟩, c.1.2⟩, c.2⟩, if_pos ⟨⟨⟨by omega, c.1.1⟩, c.1.2⟩, c.2⟩]
        exact occ_takes s sub hi kL l (st.fst.push a, a + sub.length) (by simp only [Array.size_push]; omega)
      · rw [if_neg (fun z => c ⟨⟨z.1.1.2, z.1.2⟩, z.2⟩), if_neg (fun z => c ⟨⟨z.1.1.2, z.1.2⟩, z.2⟩)]
        exact occ_takes s sub hi kL l (st.fst, st.snd) h
theorem occ_take (x y : Str) {k : Nat} (h : k ≤ x.length + 1) : occurrences x y 0 x.length k = (occurrences x y 0 x.length (x.length + 1)).take k := by
  rw [occ_eq, occ_eq]
  exact occ_takes x y x.length h _ _ (Nat.zero_le _)
theorem occ_two {x : Str} {c : Nat} {a b t : List Nat} (hx : cl x = a ++ c :: (b ++ c :: t)) (ha : c ∉ a) (hb : c ∉ b) : ∃ c0 c1, occurrences x ⟨#[c]⟩ 0 x.length 2 = [c0, c1] ∧ (partsBetween x [c0, c1] 1).map cl = [a, b, t] := by
  have hs := split_cut x c
  rw [hx, cut_app _ ha, cut_app _ hb] at hs
  have hl : 2 ≤ x.length + 1 := by
    have : (cl x).length = x.length := by show x.cps.toList.length = _; rw [Array.length_toList]; rfl
    rw [hx] at this
    simp only [List.length_append, List.length_cons] at this
    omega
  have h3 : 2 ≤ (cut c t).length + 1 := by
    have : cut c t ≠ [] := by
      cases t with
      | nil => simp [cut]
      | cons z zs =>
        unfold cut
        split
        · simp
        · split <;> simp
    have := List.length_pos_iff.mpr this
    omega
  have ht := occ_take x ⟨#[c]⟩ hl
  -- the full split has its cuts
  have hsp : Txt.split x ⟨#[c]⟩ = partsFrom x 1 0 (occurrences x ⟨#[c]⟩ 0 x.length (x.length + 1)) ∨ (Txt.split x ⟨#[c]⟩).length = 1 := by
    unfold Txt.split
    split
    · exact .inr rfl
    · split
      · exact .inr rfl
      · exact .inl (partsBetween_eq x _ 1)
  rcases hsp with hsp | hsp
  · rw [hsp] at hs
    cases hc : occurrences x ⟨#[c]⟩ 0 x.length (x.length + 1) with
    | nil =>
      rw [hc] at hs
      have := congrArg List.length hs
      simp only [partsFrom, List.length_map, List.length_cons, List.length_nil] at this
      omega
    | cons c0 r =>
      rw [hc] at hs ht
      cases r with
      | nil =>
        have := congrArg List.length hs
        simp only [partsFrom, List.length_map, List.length_cons, List.length_nil] at this
        omega
      | cons c1 r =>
        have e2 : occurrences x ⟨#[c]⟩ 0 x.length 2 = [c0, c1] := ht
        refine ⟨c0, c1, e2, ?_⟩
        have hs : cl (strSub x 0 c0) :: cl (strSub x (c0 + 1) c1) :: (partsFrom x 1 (c1 + 1) r).map cl = a :: b :: cut c t := hs
        have p0 := (List.cons.inj hs).1
        have p1 := (List.cons.inj (List.cons.inj hs).2).1
        rw [partsBetween_eq]
        show [cl (strSub x 0 c0), cl (strSub x (c0 + 1) c1), cl (strSub x (c1 + 1) x.length)] = _
        obtain ⟨f, ch⟩ := occ_chain x ⟨#[c]⟩ 2
        rw [e2] at ch
        have hj := join_partsFrom x ⟨#[c]⟩ [c0, c1] 0 f ch
        rw [sub_whole] at hj
        have hj : Str.join ⟨#[c]⟩ [strSub x 0 c0, strSub x (c0 + 1) c1, strSub x (c1 + 1) x.length] = x := hj
        have hcl := congrArg cl hj
        rw [show Str.join ⟨#[c]⟩ [strSub x 0 c0, strSub x (c0 + 1) c1, strSub x (c1 + 1) x.length] = strSub x 0 c0 ++ ⟨#[c]⟩ ++ (strSub x (c0 + 1) c1 ++ ⟨#[c]⟩ ++ strSub x (c1 + 1) x.length) from rfl, cl_app, cl_app, cl_app, cl_app, p0, p1, hx] at hcl
        have hc1 : cl (⟨#[c]⟩ : Str) = [c] := rfl
        rw [hc1] at hcl
        have e3 : cl (strSub x (c1 + 1) x.length) = t := by
          have : a ++ [c] ++ (b ++ [c] ++ cl (strSub x (c1 + 1) x.length)) = a ++ c :: (b ++ c :: t) := hcl
          simp only [List.append_assoc, List.cons_append, List.nil_append] at this
          have := List.append_cancel_left this
          have := (List.cons.inj this).2
          have := List.append_cancel_left this
          exact (List.cons.inj this).2
        rw [p0, p1, e3]
  · have := congrArg List.length hs
    rw [List.length_map, hsp] at this
    simp only [List.length_cons] at this
    omega
end Tx
namespace L2
open PySem PySem.Spec PyProof.Rows PySem.Builtin PySem.Builtin.Str Tx
def rSplit2 : V → List V → Hp → VK → Prop := fun x vs H Q => ∃ i sa sb st : Str, x = .str i ∧ vs = [.str (Str.ofString " "), .int 2] ∧ cl i = cl sa ++ 32 :: (cl sb ++ 32 :: cl st) ∧ 32 ∉ cl sa ∧ 32 ∉ cl sb ∧ i.length + 2 ≤ sizeLine ∧ ∀ p, H p = none → Q (.ref p) (upd H p (.lst [.str sa, .str sb, .str st]))
theorem cl_inj {a b : Str} (h : cl a = cl b) : a = b := by
  obtain ⟨⟨x⟩⟩ := a
  obtain ⟨⟨y⟩⟩ := b
  have h : x = y := h
  rw [h]
theorem mt_split2 {X : Cx} : MtM X "str.split" rSplit2 := by
  intro pins s σ H x vs v us Q I rx rv h
  obtain ⟨i, sa, sb, st, rfl, rfl, hi, ha, hb, hz, q⟩ := h
  obtain ⟨t, rfl⟩ := rx
  obtain ⟨u, w, rfl, ru, rw'⟩ := vals2 rv
  obtain ⟨t', rfl⟩ := ru
  obtain ⟨t2, rfl⟩ := rw'
  have e1 : (Str.ofString " ") = (⟨#[32]⟩ : Str) := by decide +kernel
  obtain ⟨c0, c1, ho, hp⟩ := occ_two hi ha hb
  rw [e1]
  have hlen : 0 < i.length := by
    have : (cl i).length = i.length := by show i.cps.toList.length = _; rw [Array.length_toList]; rfl
    rw [hi] at this
    simp only [List.length_append, List.length_cons] at this
    omega
  have h1 : (decide (i.length < (⟨#[32]⟩ : Str).length) || decide (Str.strKind i < Str.strKind ⟨#[32]⟩)) = false := by
    have k1 : Str.strKind (⟨#[32]⟩ : Str) = 1 := by decide +kernel
    have k2 : 1 ≤ Str.strKind i := by
      unfold Str.strKind
      split
      · exact Nat.le_refl _
      · split <;> decide
    have k3 : (⟨#[32]⟩ : Str).length = 1 := rfl
    rw [k1, k3, decide_eq_false (by omega), decide_eq_false (by omega)]
    rfl
  have lm : limitOf i 2 = 2 := rfl
  have hf : (occurrences i ⟨#[32]⟩ 0 i.length (limitOf i 2)).isEmpty = false := by rw [lm, ho]; rfl
  have pb : partsBetween i (occurrences i ⟨#[32]⟩ 0 i.length (limitOf i 2)) (⟨#[32]⟩ : Str).length = [sa, sb, st] := by
    rw [lm, ho]
    have hp : (partsBetween i [c0, c1] 1).map cl = [sa, sb, st].map cl := hp
    exact List.map_inj_right (fun _ _ => cl_inj) |>.mp hp
  refine call_meets PySem.F.slot_str_split (typeIs_str _ _ _) PySem.F.entry_str_split (PySem.F.args_str_split_3 _ _ _) (meets_str_split_sep_max i ⟨#[32]⟩ 2 t t' t2 (by decide) h1 rfl hf (by omega) (by rw [pb]; show 3 ≤ sizeLine; decide)) ?_
  show wants _ _ _ { s with toks := _, heap := s.heap.push { cls := .type "list", data := .seq (strsFrom s.toks (partsBetween i (occurrences i ⟨#[32]⟩ 0 i.length (limitOf i 2)) (⟨#[32]⟩ : Str).length)).toArray } }
  rw [pb, strsFrom_eq]
  refine ⟨.ref s.heap.objs.size, _, ?_, rfl, q _ I.fresh⟩
  have e : (numbered s.toks [sa, sb, st]).map (·.1) = [sa, sb, st] := numbered_texts _ _
  have : [V.str sa, V.str sb, V.str st] = ((numbered s.toks [sa, sb, st]).map (·.1)).map V.str := by rw [e]; rfl
  rw [this]
  exact I.lnew (vals_strs _) (by rw [e]; show 3 ≤ sizeLine; decide)
end L2
namespace L2
open PySem PySem.Spec PyProof.Rows PySem.Builtin
def hashP (p : Params) (x : Str) : Int := if x.cps.isEmpty = true then 0 else reduceHash (p.strHash x.cps)
theorem hashP_eq {w : World} {p : Params} (h : w.params = p) (x : Str) : hashStr w x = hashP p x := by
  subst h
  rfl
inductive Ent (p : Params) : List DictEntry → List (Str × V) → Prop
  | nil : Ent p [] []
  | cons {e : DictEntry} {x : Str} {t : Tok} {v : V} {es : List DictEntry} {ps : List (Str × V)} : e.hash = hashP p x → e.key = .str x t → RelV v e.val → Ent p es ps → Ent p (e :: es) ((x, v) :: ps)
def dkS (ps : List (Str × V)) : List (Key × V) := ps.map fun q => (.inr q.1, q.2)
theorem Ent.parts {P : Program} {w : World} {p : Params} (hp : w.params = p) : ∀ {es : List DictEntry} {ps : List (Str × V)}, Ent p es ps → ∃ vs : List (Key × Value), KV (dkS ps) vs ∧ Pairs (mixKind P w) es vs ∧ vs.map (·.1) = ps.map (fun q => Sum.inr q.1) ∧ ∀ e ∈ es, ∃ k, (mixKind P w).is k e.key = true ∧ e.hash = (mixKind P w).hash k
  | _, _, .nil => ⟨[], .nil, .nil, rfl, fun _ h => nomatch h⟩
  | _, _, @Ent.cons _ e x t v es ps hh hk rv r => by
    obtain ⟨vs, h1, h2, h3, h4⟩ := Ent.parts (P := P) hp r
    have is : (mixKind P w).is (.inr x) e.key = true := by rw [hk]; exact mixKind_str P w x t
    refine ⟨(.inr x, e.val) :: vs, .cons ⟨rfl, rv⟩ h1, .cons is rfl h2, by rw [List.map_cons, List.map_cons, h3], fun e' he => ?_⟩
    rcases List.mem_cons.mp he with rfl | he
    · exact ⟨.inr x, is, by rw [hh, ← hashP_eq hp]; rfl⟩
    · exact h4 e' he
theorem nodup_inr : ∀ {l : List Str}, l.Nodup → (l.map (Sum.inr : Str → Key)).Nodup
  | [], _ => .nil
  | a :: l, h => by
    rw [List.nodup_cons] at h
    rw [List.map_cons, List.nodup_cons]
    refine ⟨fun z => ?_, nodup_inr h.2⟩
    obtain ⟨b, hb, e⟩ := List.mem_map.mp z
    cases e
    exact h.1 hb
theorem dkg_mk {P : Program} {w : World} {K : PySem.W.Frag} {a : Addr} {es : Array DictEntry} {ep : Nat} {p : Params} {ps : List (Str × V)} (hp : w.params = p) (l : K.lookup a = some ⟨.type "dict", none, .dict es ep, #[]⟩) (h : Ent p es.toList ps) (nd : (ps.map (·.1)).Nodup) (ns : (a == sysModules) = false) : DKG P w K a (dkS ps) := by
  obtain ⟨vs, h1, h2, h3, h4⟩ := h.parts (P := P) hp
  refine ⟨⟨vs, _, es, ep, h1, l, ⟨rfl, rfl, rfl⟩, rfl, fun e he => h4 e (Array.mem_toList_iff.mpr he), h2, ?_⟩, ns⟩
  rw [h3]
  have : ps.map (fun q => (Sum.inr q.1 : Key)) = (ps.map (·.1)).map Sum.inr := by rw [List.map_map]; rfl
  rw [this]
  exact nodup_inr nd
end L2
namespace L2
open PySem PySem.Spec PyProof.Rows PySem.Builtin
theorem bt_sorted : bootBuiltins "sorted" = some (.builtin "sorted") := by decide +kernel
end L2
namespace L2
open PySem PySem.Spec PyProof.Rows
section
variable {X : Cx} {xc : Str} {pos np hp : Pos} {Bc : Addr} {b₀ : Stmt} {suite more : List Stmt} {ts tl : TS}
theorem ps_tryGL {body : List Stmt} {tb : TBd} (hb : PTB X body tb) (hst : X.stack = X.env :: X.outer) (hf : X.env.frame = some X.env.locals)
    (hcl : X.mg xc = some (.ref Bc)) (hs : ∀ a, PSs (X.hnd a) (b₀ :: suite) ts) (ho : PSs X more tl) (hgc : Gl X xc := by rfl) (hdc : (xc == ("__debug__" : Str)) = false := by decide) :
    PS X (.Try body [.ExceptHandler (some (.Name xc np)) none (b₀ :: suite) hp] more [] pos)
      (fun D σ H => tb (fun c _ H2 => ∃ C, c = .ref C ∧ PySem.W.exmOne X.K (.ref C) (.ref Bc) = some true ∧ ts D σ H2) (fun H2 => tl D σ H2) σ H) := by
  intro pins s σ H D I h
  refine wpAny_Try_except (wpAny_mono (hb pins s σ H _ _ I h) (fun f s1 hq => ?_) (fun e s' hx => ?_))
  · obtain ⟨rfl, H2, I2, q⟩ := hq
    exact ho pins s1 _ H2 D I2 q
  · obtain ⟨H1, s1, I1, a, C, t, H', B, rfl, os, bare, clo, fly, na, nw, C', eC, hmm, q2⟩ := hx
    cases eC
    exact handle_no I1 hst hf os bare clo fly hgc hcl hmm (hs a) q2 hdc
end
end L2
namespace Lib
open PySem L2 Fr Op Tx
abbrev DkS := Str → Option (List Pc)
def setB (S : DkS) (x : Str) (ps : List Pc) : DkS := fun y => if y = x then some ps else S y
def OkB (ps : List Pc) : Prop := ps.length ≤ 60 ∧ ∀ p ∈ ps, PShort p
theorem bd_shq {q : Rat} (h : Short q) : Bd 50 q := by
  have p1 : (10 : Nat) ^ 15 ≤ 2 ^ 50 := by decide
  exact ⟨Nat.lt_of_lt_of_le h.n p1, Nat.lt_of_lt_of_le h.d p1⟩
theorem PShort.bd {p : Pc} (h : PShort p) : p.bd 50 := by
  cases p with
  | gap g => exact bd_shq (h.2 g (by simp [fracs]))
  | glass g => exact bd_shq (h.2 g (by simp [fracs]))
  | stop lo hi => exact ⟨bd_shq (h.2 lo (by simp [fracs])), bd_shq (h.2 hi (by simp [fracs]))⟩
theorem OkB.good {ps : List Pc} (h : OkB ps) : Good 50 ps := ⟨h.1, fun p hp => (h.2 p hp).1, fun p hp => (h.2 p hp).bd⟩
theorem OkB.app {a b : List Pc} (ha : OkB a) (hb : OkB b) (l : a.length + b.length ≤ 60) : OkB (a ++ b) := ⟨by rw [List.length_append]; exact l, fun p hp => (List.mem_append.mp hp).elim (ha.2 p) (hb.2 p)⟩
theorem OkB.rev {a : List Pc} (ha : OkB a) : OkB a.reverse := ⟨by rw [List.length_reverse]; exact ha.1, fun p hp => ha.2 p (List.mem_reverse.mp hp)⟩
def DicB (K : PySem.W.Frag) (H : Hp) (q : Addr) (kvs : List (Key × V)) (S : DkS) : Prop := ∀ x : Str, match S x with
  | none => valV kvs (.inr x) = none
  | some ps => OkB ps ∧ ∃ l, valV kvs (.inr x) = some (.ref l) ∧ BnA K H l ps ∧ l ≠ q
section
variable {K : PySem.W.Frag} {H H' : Hp} {q a l : Addr} {kvs : List (Key × V)} {S : DkS} {ps : List Pc} {x : Str}
theorem DicB.at (h : DicB K H q kvs S) (e : S x = some ps) : OkB ps ∧ ∃ l, valV kvs (.inr x) = some (.ref l) ∧ BnA K H l ps ∧ l ≠ q := by
  have := h x
  rw [e] at this
  exact this
theorem DicB.no (h : DicB K H q kvs S) (e : S x = none) : valV kvs (.inr x) = none := by
  have := h x
  rw [e] at this
  exact this
theorem DicB.map (h : DicB K H q kvs S) (f : ∀ l ps, BnA K H l ps → l ≠ q → BnA K H' l ps) : DicB K H' q kvs S := fun x => by
  have := h x
  cases e : S x with
  | none => rw [e] at this; exact this
  | some ps =>
    rw [e] at this
    obtain ⟨o, l, h1, h2, h3⟩ := this
    exact ⟨o, l, h1, f l ps h2 h3, h3⟩
theorem bna_t (h : BnA K H l ps) (t : SameT H H') (s : ∀ o, H l = some o → H' l = some o) : BnA K H' l ps := by
  obtain ⟨xs, h1, h2, h3⟩ := h
  exact ⟨xs, s _ h1, dvs_keepT t (noLs_map noL_pc ps) h2, h3⟩
theorem DicB.keep (h : DicB K H q kvs S) (s : Same H H') : DicB K H' q kvs S := h.map fun l ps b _ => b.keep s
theorem sd_tD {ks : List (Key × V)} (h : H a = some (.dK ks)) (s : SD a H H') : SameT H H' := fun b ys => ⟨fun e => s b _ (fun z => by rw [z, h] at e; cases e) e, fun o e => s b _ (fun z => by rw [z, h] at e; cases e) e⟩
theorem bna_d {ks : List (Key × V)} (h : BnA K H l ps) (ha : H a = some (.dK ks)) (s : SD a H H') : BnA K H' l ps := by
  refine bna_t h (sd_tD ha s) fun o e => s _ _ (fun z => ?_) e
  obtain ⟨xs, h1, _⟩ := h
  rw [z, ha] at h1
  cases h1
theorem DicB.keepD {ks : List (Key × V)} (h : DicB K H q kvs S) (ha : H a = some (.dK ks)) (s : SD a H H') : DicB K H' q kvs S := h.map fun l ps b _ => bna_d b ha s
theorem DicB.draw {c : Addr} {L : List V} (h : DicB K H q kvs S) (d : DrA H q c L) (s : SD q H H') : DicB K H' q kvs S := h.map fun l ps b n => bna_t b (d.t s) fun o e => s _ _ n e
theorem DicB.nil : DicB K H q [] (fun _ => none) := fun _ => rfl
theorem DicB.put (h : DicB K H q kvs S) (b : BnA K H l ps) (n : l ≠ q) (o : OkB ps) : DicB K H q (putK kvs (.inr x) (.ref l)) (setB S x ps) := fun y => by
  unfold setB
  by_cases e : y = x
  · subst e
    rw [if_pos rfl]
    exact ⟨o, l, by rw [valV_put, if_pos rfl], b, n⟩
  · rw [if_neg e]
    have e' : ¬ (Sum.inr y : Key) = .inr x := fun z => e (Sum.inr.inj z)
    have := h y
    cases f : S y with
    | none => rw [f] at this; rw [show valV (putK kvs (.inr x) (.ref l)) (.inr y) = valV kvs (.inr y) by rw [valV_put, if_neg e']]; exact this
    | some qs =>
      rw [f] at this
      obtain ⟨o, l, h1, h2, h3⟩ := this
      exact ⟨o, l, by rw [valV_put, if_neg e']; exact h1, h2, h3⟩
end
theorem putK_len (kvs : List (Key × V)) (k : Key) (v : V) : (putK kvs k v).length ≤ kvs.length + 1 := by
  unfold putK
  split
  · rw [List.length_map]; omega
  · simp
structure DkA (K : PySem.W.Frag) (H : Hp) (q C o dx d : Addr) (S : DkS) (n : Nat) : Prop where
  o : H o = some (.ins C dx [("benches", .ref d)])
  d : ∃ kvs, H d = some (.dK kvs) ∧ kvs.length ≤ n ∧ DicB K H q kvs S
section
variable {K : PySem.W.Frag} {H H' : Hp} {q C o dx d a l : Addr} {S : DkS} {n : Nat} {ps : List Pc} {x : Str}
theorem DkA.keep (h : DkA K H q C o dx d S n) (s : Same H H') : DkA K H' q C o dx d S n := by
  obtain ⟨kvs, h1, h2, h3⟩ := h.d
  exact ⟨s _ _ h.o, kvs, s _ _ h1, h2, h3.keep s⟩
theorem DkA.keepD {ks : List (Key × V)} (h : DkA K H q C o dx d S n) (ha : H a = some (.dK ks)) (na : d ≠ a) (s : SD a H H') : DkA K H' q C o dx d S n := by
  obtain ⟨kvs, h1, h2, h3⟩ := h.d
  exact ⟨s _ _ (fun e => by have := h.o; rw [e, ha] at this; cases this) h.o, kvs, s _ _ na h1, h2, h3.keepD ha s⟩
theorem DkA.draw {c : Addr} {L : List V} (h : DkA K H q C o dx d S n) (dr : DrA H q c L) (s : SD q H H') : DkA K H' q C o dx d S n := by
  obtain ⟨kvs, h1, h2, h3⟩ := h.d
  obtain ⟨z, m, z0, hz⟩ := dr.d
  exact ⟨s _ _ (fun e => by have := h.o; rw [e, hz] at this; cases this) h.o, kvs, s _ _ (fun e => by rw [e, hz] at h1; cases h1) h1, h2, h3.draw dr s⟩
theorem DkA.ok (h : DkA K H q C o dx d S n) (e : S x = some ps) : OkB ps := by
  obtain ⟨kvs, h1, h2, h3⟩ := h.d
  exact (h3.at e).1
theorem DkA.ne (h : DkA K H q C o dx d S n) : o ≠ d := fun e => by
  obtain ⟨kvs, h1, _⟩ := h.d
  have := h.o
  rw [e, h1] at this
  cases this
theorem DkA.put {kvs : List (Key × V)} (h : DkA K H q C o dx d S n) (hk : H d = some (.dK kvs)) (b : BnA K H l ps) (nl : l ≠ q) (ok : OkB ps) : DkA K (upd H d (.dK (putK kvs (.inr x) (.ref l)))) q C o dx d (setB S x ps) (n + 1) := by
  obtain ⟨kvs', h1, h2, h3⟩ := h.d
  cases h1.symm.trans hk
  refine ⟨by rw [upd_ne h.ne]; exact h.o, _, upd_same, Nat.le_trans (putK_len _ _ _) (by omega), ?_⟩
  exact (h3.put b nl ok).keepD hk sd_upd
end
def spDInit (C : Addr) : Sp := fun vs H Q _ => ∃ a dx, vs = [.ref a] ∧ H a = some (.ins C dx []) ∧ ∀ d, H d = none → Q .non (upd (upd H d (.dK [])) a (.ins C dx [("benches", .ref d)]))
def spBy (K : PySem.W.Frag) (C : Addr) : Sp := fun vs H Q _ => ∃ (o dx d q : Addr) (x : Str) (S : DkS) (n : Nat) (ps : List Pc), vs = [.ref o, .str x] ∧ DkA K H q C o dx d S n ∧ S x = some ps ∧ ∀ l, BnA K H l ps → l ≠ q → Q (.ref l) H
def spByX (K : PySem.W.Frag) (C N : Addr) : Sp := fun vs H _ E => ∃ (o dx d q : Addr) (x : Str) (S : DkS) (n : Nat), vs = [.ref o, .str x] ∧ DkA K H q C o dx d S n ∧ S x = none ∧ E (.ref N) none H
def spKeep (K : PySem.W.Frag) (C : Addr) : Sp := fun vs H Q _ => ∃ (o dx d q l : Addr) (x : Str) (S : DkS) (n : Nat) (ps : List Pc), vs = [.ref o, .str x, .ref l] ∧ DkA K H q C o dx d S n ∧ n ≤ 1000 ∧ BnA K H l ps ∧ l ≠ q ∧ OkB ps ∧
  ∀ H', SD d H H' → DkA K H' q C o dx d (setB S x ps) (n + 1) → Q (.str "ok") H'
def Nm (x : Str) : Prop := nameB x = true
def rowB (x t : Str) : Str := sOf "bench " ++ x ++ sOf " " ++ t
def rowJ (x y z : Str) : Str := sOf "join " ++ x ++ sOf " " ++ y ++ sOf " " ++ z
def rowT (x y : Str) : Str := sOf "turn " ++ x ++ sOf " " ++ y
def rowS (x : Str) : Str := sOf "show " ++ x
def spSayB (K : PySem.W.Frag) (C : Addr) : Sp := fun vs H Q _ => ∃ (o dx d q : Addr) (x : Str) (S : DkS) (n : Nat) (ps : List (Part 5)), vs = [.ref o, .str (rowB x (textL 5 ps))] ∧ DkA K H q C o dx d S n ∧ (∃ z, H q = some z) ∧ n ≤ 1000 ∧ Nm x ∧ ps.length ≤ 50000 ∧ (∀ p ∈ ps, WP 5 p) ∧ (textL 5 ps).length ≤ 15000 ∧ cntL 5 ps ≤ 60 ∧ OkB (toldL 5 ps) ∧
  ∀ H', SD d H H' → DkA K H' q C o dx d (setB S x (toldL 5 ps)) (n + 1) → Q (.str "ok") H'
def spSayJ (K : PySem.W.Frag) (C : Addr) : Sp := fun vs H Q _ => ∃ (o dx d q : Addr) (x y z : Str) (S : DkS) (n : Nat) (a b : List Pc), vs = [.ref o, .str (rowJ x y z)] ∧ DkA K H q C o dx d S n ∧ (∃ z, H q = some z) ∧ n ≤ 1000 ∧ Nm x ∧ Nm y ∧ Nm z ∧ S y = some a ∧ S z = some b ∧ a.length + b.length ≤ 60 ∧
  ∀ H', SD d H H' → DkA K H' q C o dx d (setB S x (a ++ b)) (n + 1) → Q (.str "ok") H'
def spSayT (K : PySem.W.Frag) (C : Addr) : Sp := fun vs H Q _ => ∃ (o dx d q : Addr) (x y : Str) (S : DkS) (n : Nat) (a : List Pc), vs = [.ref o, .str (rowT x y)] ∧ DkA K H q C o dx d S n ∧ (∃ z, H q = some z) ∧ n ≤ 1000 ∧ Nm x ∧ Nm y ∧ S y = some a ∧
  ∀ H', SD d H H' → DkA K H' q C o dx d (setB S x a.reverse) (n + 1) → Q (.str "ok") H'
def spSayS (K : PySem.W.Frag) (C : Addr) : Sp := fun vs H Q _ => ∃ (o dx d q : Addr) (x : Str) (S : DkS) (n : Nat) (a : List Pc), vs = [.ref o, .str (rowS x)] ∧ DkA K H q C o dx d S n ∧ Nm x ∧ S x = some a ∧ ∀ H', Same H H' → Q (.str (textB a)) H'
def spSayX (K : PySem.W.Frag) (C N : Addr) : Sp := fun vs H _ E => ∃ (o dx d q : Addr) (x : Str) (S : DkS) (n : Nat), vs = [.ref o, .str (rowS x)] ∧ DkA K H q C o dx d S n ∧ Nm x ∧ S x = none ∧ ∀ H', Same H H' → E (.ref N) none H'
def spRow : Sp := fun vs H Q _ => ∃ (l : Addr) (w : Str) (ns : List Str), vs = [.ref l] ∧ H l = some (.lst ((w :: ns).map V.str)) ∧ (∀ x ∈ ns, Nm x) ∧ ((w = sOf "join" ∧ ns.length = 3) ∨ (w = sOf "turn" ∧ ns.length = 2) ∨ (w = sOf "show" ∧ ns.length = 1)) ∧
  ∀ r l1 l2 H', Same H H' → H' r = some (.tup [.ref l1, .ref l2]) → H' l1 = some (.lst (ns.map V.str)) → Q (.ref r) H'
def spNmOk : Sp := fun vs H Q _ => ∃ x : Str, vs = [.str x] ∧ Nm x ∧ ∀ H', Same H H' → Q .non H'
def spShA (K : PySem.W.Frag) : Sp := fun vs H Q _ => ∃ (v w : V) (ps : List Pc), vs = [v, w] ∧ DV K H v (benchD ps) ∧ OkB ps ∧ ∀ H', Same H H' → Q (.str (textB ps)) H'
def spTurnD (K : PySem.W.Frag) : Sp := fun vs H Q _ => ∃ (v : V) (ps : List Pc), vs = [v] ∧ DV K H v (benchD ps) ∧ OkB ps ∧ ∀ l xs H', Same H H' → H l = none → H' l = some (.lst xs) → DVs K H' xs (ps.reverse.map pcD) → Q (.ref l) H'
theorem inLet_no : inLet ⟨#[32]⟩ = false := by decide +kernel
theorem Nm.no {x : Str} (h : Nm x) : 32 ∉ cl x := fun m => by
  have h : nameB x = true := h
  unfold nameB at h
  have h2 := (Bool.and_eq_true_iff.mp h).2
  have h3 := List.all_eq_true.mp h2 ⟨#[32]⟩ (List.mem_map.mpr ⟨32, m, rfl⟩)
  rw [inLet_no] at h3
  cases h3
theorem Nm.len {x : Str} (h : Nm x) : x.length ≤ 8 := nameB_le h
theorem map_cl_inj : ∀ {a b : List Str}, a.map cl = b.map cl → a = b
  | [], [], _ => rfl
  | x :: a, y :: b, h => by
    injection h with h1 h2
    rw [ext h1, map_cl_inj h2]
theorem lenD (x : Str) : (cl x).length = x.length := rfl
theorem split_S {x : Str} (h : Nm x) : Txt.split (rowS x) (sOf " ") = [sOf "show", x] := map_cl_inj (by
  show (Txt.split (rowS x) ⟨#[32]⟩).map cl = _
  rw [split_cut]
  unfold rowS
  rw [cl_app, show cl (sOf "show ") = cl (sOf "show") ++ [32] by decide +kernel, List.append_assoc]
  show cut 32 (cl (sOf "show") ++ 32 :: cl x) = _
  rw [cut_app _ (by decide +kernel), cut_free h.no]
  rfl)
theorem split_T {x y : Str} (h : Nm x) (h2 : Nm y) : Txt.split (rowT x y) (sOf " ") = [sOf "turn", x, y] := map_cl_inj (by
  show (Txt.split (rowT x y) ⟨#[32]⟩).map cl = _
  rw [split_cut]
  unfold rowT
  rw [cl_app, cl_app, cl_app, show cl (sOf "turn ") = cl (sOf "turn") ++ [32] by decide +kernel, show cl (sOf " ") = [32] by decide +kernel, List.append_assoc, List.append_assoc, List.append_assoc]
  show cut 32 (cl (sOf "turn") ++ 32 :: (cl x ++ 32 :: cl y)) = _
  rw [cut_app _ (by decide +kernel), cut_app _ h.no, cut_free h2.no]
  rfl)
theorem split_J {x y z : Str} (h : Nm x) (h2 : Nm y) (h3 : Nm z) : Txt.split (rowJ x y z) (sOf " ") = [sOf "join", x, y, z] := map_cl_inj (by
  show (Txt.split (rowJ x y z) ⟨#[32]⟩).map cl = _
  rw [split_cut]
  unfold rowJ
  rw [cl_app, cl_app, cl_app, cl_app, cl_app, show cl (sOf "join ") = cl (sOf "join") ++ [32] by decide +kernel, show cl (sOf " ") = [32] by decide +kernel]
  simp only [List.append_assoc]
  show cut 32 (cl (sOf "join") ++ 32 :: (cl x ++ 32 :: (cl y ++ 32 :: cl z))) = _
  rw [cut_app _ (by decide +kernel), cut_app _ h.no, cut_app _ h2.no, cut_free h3.no]
  rfl)
theorem cl_B (x t : Str) : cl (rowB x t) = cl (sOf "bench") ++ 32 :: (cl x ++ 32 :: cl t) := by
  unfold rowB
  rw [cl_app, cl_app, cl_app, show cl (sOf "bench ") = cl (sOf "bench") ++ [32] by decide +kernel, show cl (sOf " ") = [32] by decide +kernel]
  simp only [List.append_assoc]
  rfl
theorem split_B {x t : Str} (h : Nm x) : ∃ r, Txt.split (rowB x t) (sOf " ") = sOf "bench" :: r := by
  have e : (Txt.split (rowB x t) ⟨#[32]⟩).map cl = cl (sOf "bench") :: cut 32 (cl x ++ 32 :: cl t) := by
    rw [split_cut, cl_B, cut_app _ (by decide +kernel)]
  have e : (Txt.split (rowB x t) (sOf " ")).map cl = cl (sOf "bench") :: cut 32 (cl x ++ 32 :: cl t) := e
  cases f : Txt.split (rowB x t) (sOf " ") with
  | nil => rw [f] at e; cases e
  | cons a r =>
    rw [f] at e
    injection e with e1 e2
    exact ⟨r, by rw [ext e1]⟩
theorem len_B {x t : Str} (h : Nm x) : (rowB x t).length = t.length + x.length + 7 := by
  rw [← lenD, cl_B]
  simp only [List.length_append, List.length_cons, lenD]
  rw [show (sOf "bench").length = 5 by decide +kernel]
  omega
theorem len_S {x : Str} (h : Nm x) : (rowS x).length ≤ 13 := by
  have := h.len
  rw [← lenD]
  unfold rowS
  rw [cl_app, List.length_append, lenD, lenD, show (sOf "show ").length = 5 by decide +kernel]
  omega
theorem len_T {x y : Str} (h : Nm x) (h2 : Nm y) : (rowT x y).length ≤ 22 := by
  have := h.len
  have := h2.len
  rw [← lenD]
  unfold rowT
  simp only [cl_app, List.length_append, lenD]
  rw [show (sOf "turn ").length = 5 by decide +kernel, show (sOf " ").length = 1 by decide +kernel]
  omega
theorem len_J {x y z : Str} (h : Nm x) (h2 : Nm y) (h3 : Nm z) : (rowJ x y z).length ≤ 31 := by
  have := h.len
  have := h2.len
  have := h3.len
  rw [← lenD]
  unfold rowJ
  simp only [cl_app, List.length_append, lenD]
  rw [show (sOf "join ").length = 5 by decide +kernel, show (sOf " ").length = 1 by decide +kernel]
  omega
end Lib
namespace Lib
open PySem L2 Fr Op Tx
def nmI (a t r : Int) : Str := Txt.slice (PySem.Str.ofString "lens") none (some t) ++ ⟨#[97 + a.toNat]⟩ ++ Txt.slice (PySem.Str.ofString "lens") (some t) (some (t + r))
def called (z i : Int) : Str := if z % 3 = 0 then Txt.mul (PySem.Str.ofString "m") (1 + i) else nmI ((z / 24 + 5 * i) % 26) (z / 3 % 5) (z % 4)
theorem nmI_ok : ∀ a : Fin 26, ∀ t : Fin 5, ∀ r : Fin 4, nameB (nmI (a.val : Nat) (t.val : Nat) (r.val : Nat)) = true ∧ nmI (a.val : Nat) (t.val : Nat) (r.val : Nat) ≠ nmI (((a.val + 5) % 26 : Nat) : Int) (t.val : Nat) (r.val : Nat) := by decide +kernel
theorem mI_ok : ∀ i : Fin 3, nameB (Txt.mul (PySem.Str.ofString "m") (1 + ((i.val : Nat) : Int))) = true := by decide +kernel
theorem called_ok (z : Int) {i : Int} (h0 : 0 ≤ i) (h : i < 3) : Nm (called z i) := by
  unfold Nm called
  split
  · have := mI_ok ⟨i.toNat, by omega⟩
    have e : ((i.toNat : Nat) : Int) = i := by omega
    simp only [e] at this
    exact this
  · have := (nmI_ok ⟨((z / 24 + 5 * i) % 26).toNat, by omega⟩ ⟨(z / 3 % 5).toNat, by omega⟩ ⟨(z % 4).toNat, by omega⟩).1
    have e1 : ((((z / 24 + 5 * i) % 26).toNat : Nat) : Int) = (z / 24 + 5 * i) % 26 := by omega
    have e2 : (((z / 3 % 5).toNat : Nat) : Int) = z / 3 % 5 := by omega
    have e3 : (((z % 4).toNat : Nat) : Int) = z % 4 := by omega
    simp only [e1, e2, e3] at this
    exact this
theorem called_ne (z : Int) : called z 0 ≠ called z 1 := by
  unfold called
  split
  · decide +kernel
  · have := (nmI_ok ⟨((z / 24 + 5 * 0) % 26).toNat, by omega⟩ ⟨(z / 3 % 5).toNat, by omega⟩ ⟨(z % 4).toNat, by omega⟩).2
    have e1 : ((((z / 24 + 5 * 0) % 26).toNat : Nat) : Int) = (z / 24 + 5 * 0) % 26 := by omega
    have e2 : (((z / 3 % 5).toNat : Nat) : Int) = z / 3 % 5 := by omega
    have e3 : (((z % 4).toNat : Nat) : Int) = z % 4 := by omega
    have e4 : (((((z / 24 + 5 * 0) % 26).toNat + 5) % 26 : Nat) : Int) = (z / 24 + 5 * 1) % 26 := by omega
    simp only [e1, e2, e3, e4] at this
    exact this
theorem ltr_at : ∀ a : Fin 26, (PySem.Str.ofString "abcdefghijklmnopqrstuvwxyz").cps[a.val]? = some (97 + a.val) := by decide +kernel
theorem len_lens : ∀ t : Fin 5, ∀ r : Fin 4, (Txt.slice (PySem.Str.ofString "lens") none (some ((t.val : Nat) : Int))).length ≤ 4 ∧ (Txt.slice (PySem.Str.ofString "lens") (some ((t.val : Nat) : Int)) (some (((t.val : Nat) : Int) + ((r.val : Nat) : Int)))).length ≤ 4 := by decide +kernel
def spCalled : Sp := fun vs H Q _ => ∃ (z i : Int), vs = [.int z, .int i] ∧ 0 ≤ z ∧ z < 2147483647 ∧ 0 ≤ i ∧ i < 3 ∧ Q (.str (called z i)) H
def spBns (K : PySem.W.Frag) : Sp := fun vs H Q _ => ∃ (d c : Addr) (L : List V), vs = [.ref d, .int 1, .int 0] ∧ DrA H d c L ∧ ∀ (l b : Addr) (xs : List V) (ps : List Pc) H', DrA H' d c L → SD d H H' → H l = none → H b = none → H' l = some (.lst [.ref b]) → H' b = some (.lst xs) → DVs K H' xs (ps.map pcD) → ps.length ≤ 6 → (∀ p ∈ ps, PShort p) → Q (.ref l) H'
def spUnk (K : PySem.W.Frag) (C : Addr) : Sp := fun vs H Q _ => ∃ (o dx d q : Addr) (x : Str) (S : DkS) (n : Nat), vs = [.ref o, .str (rowS x)] ∧ DkA K H q C o dx d S n ∧ Nm x ∧ S x = none ∧ ∀ H', Same H H' → Q (.bl true) H'
end Lib
namespace Lib
open PySem L2 Fr Op Tx
structure Kp72 (K : PySem.W.Frag) (H : Hp) (q dk : Addr) (S : DkS) (n : Nat) : Prop where
  x : ∃ (kvs : List (Key × V)) (ss : List Str), H dk = some (.dK kvs) ∧ kvs.map (·.1) = ss.map Sum.inr ∧ kvs.length ≤ n ∧ DicB K H q kvs S
structure Lw72 (K : PySem.W.Frag) (H : Hp) (C o dx d dk ln q c : Addr) (L : List V) (S : DkS) (n : Nat) (ns : List Str) : Prop where
  dr : DrA H q c L
  ds : DkA K H q C o dx d S n
  kp : Kp72 K H q dk S n
  ne : d ≠ dk
  nm : H ln = some (.lst (ns.map V.str))
  l4 : ns.length = 4
  ok : ∀ x ∈ ns, Nm x ∧ PyData.strOk x = true
  sn : ∀ x ps, S x = some ps → Nm x ∧ PyData.strOk x = true
def S3 (a b c : Addr) (H H' : Hp) : Prop := ∀ x o, x ≠ a → x ≠ b → x ≠ c → H x = some o → H' x = some o
theorem S3.trans {a b c : Addr} {H H1 H2 : Hp} (s : S3 a b c H H1) (t : S3 a b c H1 H2) : S3 a b c H H2 := fun x o h1 h2 h3 e => t x o h1 h2 h3 (s x o h1 h2 h3 e)
theorem S3.same {a b c : Addr} {H H' : Hp} (s : Same H H') : S3 a b c H H' := fun x o _ _ _ e => s x o e
theorem S3.a {a b c : Addr} {H H' : Hp} (s : SD a H H') : S3 a b c H H' := fun x o h _ _ e => s x o h e
theorem S3.b {a b c : Addr} {H H' : Hp} (s : SD b H H') : S3 a b c H H' := fun x o _ h _ e => s x o h e
theorem S3.c {a b c : Addr} {H H' : Hp} (s : SD c H H') : S3 a b c H H' := fun x o _ _ h e => s x o h e
def spDone72 (K : PySem.W.Frag) (C : Addr) : Sp := fun vs H Q _ => ∃ (o dx d dk ln q c : Addr) (L : List V) (S : DkS) (n : Nat) (ns : List Str), vs = [.ref o, .ref dk, .ref ln, .ref q] ∧ Lw72 K H C o dx d dk ln q c L S n ns ∧ n ≤ 60 ∧ ∀ H' S', Lw72 K H' C o dx d dk ln q c L S' (n + 1) ns → S3 d dk q H H' → Q (.str "ok") H'
section
variable {K : PySem.W.Frag} {H H' : Hp} {C o dx d dk ln q c a l : Addr} {L : List V} {S : DkS} {n : Nat} {ns : List Str} {ps : List Pc} {x : Str}
theorem Kp72.keep (h : Kp72 K H q dk S n) (s : Same H H') : Kp72 K H' q dk S n := by
  obtain ⟨kvs, ss, h1, h2, h3, h4⟩ := h.x
  exact ⟨kvs, ss, s _ _ h1, h2, h3, h4.keep s⟩
theorem Kp72.keepD {ks : List (Key × V)} (h : Kp72 K H q dk S n) (ha : H a = some (.dK ks)) (na : dk ≠ a) (s : SD a H H') : Kp72 K H' q dk S n := by
  obtain ⟨kvs, ss, h1, h2, h3, h4⟩ := h.x
  exact ⟨kvs, ss, s _ _ na h1, h2, h3, h4.keepD ha s⟩
theorem Kp72.draw (h : Kp72 K H q dk S n) (dr : DrA H q c L) (s : SD q H H') : Kp72 K H' q dk S n := by
  obtain ⟨kvs, ss, h1, h2, h3, h4⟩ := h.x
  obtain ⟨z, m, z0, hz⟩ := dr.d
  exact ⟨kvs, ss, s _ _ (fun e => by rw [e, hz] at h1; cases h1) h1, h2, h3, h4.draw dr s⟩
theorem Lw72.keep (h : Lw72 K H C o dx d dk ln q c L S n ns) (s : Same H H') : Lw72 K H' C o dx d dk ln q c L S n ns := ⟨h.dr.keep s, h.ds.keep s, h.kp.keep s, h.ne, s _ _ h.nm, h.l4, h.ok, h.sn⟩
theorem Lw72.lq (h : Lw72 K H C o dx d dk ln q c L S n ns) : ln ≠ q := fun e => by
  obtain ⟨z, m, z0, hz⟩ := h.dr.d
  have h1 := h.nm
  rw [e, hz] at h1
  have h2 := h.l4
  cases ns with
  | nil => cases h2
  | cons y r =>
    injection h1 with h1
    injection h1 with h1
    injection h1 with h1
    cases h1
theorem Lw72.draw (h : Lw72 K H C o dx d dk ln q c L S n ns) (dr : DrA H' q c L) (s : SD q H H') : Lw72 K H' C o dx d dk ln q c L S n ns := ⟨dr, h.ds.draw h.dr s, h.kp.draw h.dr s, h.ne, s _ _ h.lq h.nm, h.l4, h.ok, h.sn⟩
theorem keys_put {kvs : List (Key × V)} {ss : List Str} (h : kvs.map (·.1) = ss.map Sum.inr) (x : Str) (v : V) : ∃ ss' : List Str, (putK kvs (.inr x) v).map (·.1) = ss'.map Sum.inr := by
  unfold putK
  split
  · refine ⟨ss, ?_⟩
    rw [← h, List.map_map]
    apply List.map_congr_left
    intro kv _
    show (if kv.1 = Sum.inr x then (kv.1, v) else kv).1 = kv.1
    split <;> rfl
  · exact ⟨ss ++ [x], by rw [List.map_append, h, List.map_append]; rfl⟩
theorem Lw72.put {kvs : List (Key × V)} (h : Lw72 K H C o dx d dk ln q c L S n ns) (hk : H dk = some (.dK kvs)) (b : BnA K H l ps) (nl : l ≠ q) (ok : OkB ps) :
    DrA (upd H dk (.dK (putK kvs (.inr x) (.ref l)))) q c L ∧ DkA K (upd H dk (.dK (putK kvs (.inr x) (.ref l)))) q C o dx d S n ∧ Kp72 K (upd H dk (.dK (putK kvs (.inr x) (.ref l)))) q dk (setB S x ps) (n + 1) ∧ upd H dk (.dK (putK kvs (.inr x) (.ref l))) ln = some (.lst (ns.map V.str)) ∧ SD dk H (upd H dk (.dK (putK kvs (.inr x) (.ref l)))) := by
  have sd : SD dk H (upd H dk (.dK (putK kvs (.inr x) (.ref l)))) := sd_upd
  obtain ⟨kvs', ss, h1, h2, h3, h4⟩ := h.kp.x
  cases h1.symm.trans hk
  obtain ⟨ss', e'⟩ := keys_put h2 x (.ref l)
  have nq : q ≠ dk := fun e => by
    obtain ⟨z, m, z0, hz⟩ := h.dr.d
    rw [e, hk] at hz
    cases hz
  refine ⟨h.dr.keepD sd nq (fun e => by have := h.dr.c; rw [e, hk] at this; cases this), h.ds.keepD hk h.ne sd, ⟨_, ss', upd_same, e', Nat.le_trans (putK_len _ _ _) (by omega), ?_⟩, sd _ _ (fun e => by have := h.nm; rw [e, hk] at this; cases this) h.nm, sd⟩
  exact (h4.put b nl ok).keepD hk sd
theorem Lw72.join {H0 : Hp} (h : Lw72 K H0 C o dx d dk ln q c L S n ns) (hx : Nm x ∧ PyData.strOk x = true) (dr : DrA H q c L) (kp : Kp72 K H q dk (setB S x ps) (n + 1)) (nm : H ln = some (.lst (ns.map V.str))) (ds0 : DkA K H q C o dx d S n) (s : SD d H H') (ds : DkA K H' q C o dx d (setB S x ps) (n + 1)) : Lw72 K H' C o dx d dk ln q c L (setB S x ps) (n + 1) ns := by
  obtain ⟨kvs, hk, _⟩ := ds0.d
  refine ⟨dr.keepD s (fun e => by obtain ⟨z, m, z0, hz⟩ := dr.d; rw [e, hk] at hz; cases hz) (fun e => by have := dr.c; rw [e, hk] at this; cases this), ds, kp.keepD hk h.ne.symm s, h.ne, s _ _ (fun e => by rw [e, hk] at nm; cases nm) nm, h.l4, h.ok, fun y qs e => ?_⟩
  unfold setB at e
  split at e
  · rename_i e2; rw [e2]; exact hx
  · exact h.sn y qs e
end
end Lib
namespace Lib
open PySem L2 Fr Op Tx
theorem range_get {α : Type} : ∀ xs : List α, (List.range xs.length).filterMap (xs[·]?) = xs := fun xs => by
  have h : ∀ n, n ≤ xs.length → (List.range n).filterMap (xs[·]?) = xs.take n := by
    intro n
    induction n with
    | zero => intro _; simp
    | succ n ih =>
      intro hn
      rw [List.range_succ, List.filterMap_append, ih (by omega), List.take_add_one, List.getElem?_eq_getElem (show n < xs.length by omega)]
      simp [List.getElem?_eq_getElem (show n < xs.length by omega)]
  rw [h _ (Nat.le_refl _), List.take_length]
theorem back60 : ∀ n : Fin 61, sliceRange (sliceBounds none none (some (-1)) n.val).1 (sliceBounds none none (some (-1)) n.val).2.1 (sliceBounds none none (some (-1)) n.val).2.2 = (List.range n.val).reverse := by decide +kernel
theorem pick_back {xs : List V} (h : xs.length ≤ 60) : pickV xs none none (some (-1)) = xs.reverse := by
  unfold pickV
  rw [back60 ⟨xs.length, by omega⟩, List.filterMap_reverse]
  exact congrArg List.reverse (range_get xs)
theorem cut_5 (xs : List V) : cutV xs none (some 5) = xs.take 5 := by
  unfold cutV
  rw [HT.sIx_none, show HT.sIx xs.length xs.length (some 5) = min 5 xs.length from HT.sIx_nat _ _ 5]
  rw [Nat.sub_zero, List.drop_zero]
  by_cases h : xs.length ≤ 5
  · rw [Nat.min_eq_right h, List.take_length, List.take_of_length_le h]
  · rw [Nat.min_eq_left (by omega)]
def rd72 (m : Nat) (ps : List Pc) : List (Part 5) := [pRd 4 m (ps.map (pPc 3))]
theorem text72 (m : Nat) (ps : List Pc) : textL 5 (rd72 m ps) = dgS m ++ sOf " times ( " ++ textB ps ++ sOf " )" := by
  unfold rd72
  rw [textL_one]
  show dgS m ++ sOf " times ( " ++ textL 4 (ps.map (pPc 3)) ++ sOf " )" = _
  rw [textB_L 3]
theorem told72 (m : Nat) (ps : List Pc) : toldL 5 (rd72 m ps) = rep m ps := by
  show [(List.replicate m (toldL 4 (ps.map (pPc 3)))).flatten].flatten = _
  rw [toldL_pcs 3]
  simp [rep]
theorem wp72 {m : Nat} {ps : List Pc} (hm : m ≤ 60) (ne : ps ≠ []) (hl : ps.length ≤ 60) (h : ∀ p ∈ ps, PShort p) : ∀ p ∈ rd72 m ps, WP 5 p := fun p hp => by
  rw [List.mem_singleton.mp hp]
  exact ⟨hm, fun e => ne (List.map_eq_nil_iff.mp e), by rw [List.length_map]; omega, WP_pcs h⟩
theorem rep_ok {m : Nat} {ps : List Pc} (h : ∀ p ∈ ps, PShort p) (l : m * ps.length ≤ 60) : OkB (rep m ps) := ⟨by unfold rep; rw [len_rep]; exact l, fun p hp => by
  unfold rep at hp
  obtain ⟨l, hl, hp⟩ := List.mem_flatten.mp hp
  rw [List.eq_of_mem_replicate hl] at hp
  exact h p hp⟩
theorem bna_take5 {K : PySem.W.Frag} {H : Hp} {p : Addr} {xs : List V} {ps : List Pc} (h : DVs K H xs (ps.map pcD)) (hp : H p = none) : BnA K (upd H p (.lst (cutV xs none (some 5)))) p (ps.take 5) := by
  rw [cut_5]
  exact bna_take h hp 5
theorem flat_strs (zs : List Str) (h : ∀ z ∈ zs, PyData.strOk z = true) : Flat 1 (.list (zs.map PyData.str)) := flat_lst fun d hd => by
  obtain ⟨z, hz, rfl⟩ := List.mem_map.mp hd
  exact ⟨by rw [PyData.canLay0]; exact h z hz, Nat.le_refl _⟩
theorem dv_strs {K : PySem.W.Frag} {H : Hp} {p : Addr} {zs : List Str} (h : H p = some (.lst (zs.map V.str))) : DV K H (.ref p) (.list (zs.map PyData.str)) := by
  refine .lst (SqL.of h) ?_
  have : ∀ zs : List Str, DVs K H (zs.map V.str) (zs.map PyData.str) := fun zs => by
    induction zs with
    | nil => exact .nil
    | cons z r ih => exact .cons (.str z) ih
  exact this zs
theorem keys_strs {kvs : List (Key × V)} {ss : List Str} (h : kvs.map (·.1) = ss.map Sum.inr) : kvs.map (fun kv => kV kv.1) = ss.map V.str := by
  have : kvs.map (fun kv => kV kv.1) = (kvs.map (·.1)).map kV := by rw [List.map_map]; rfl
  rw [this, h, List.map_map]
  rfl
theorem key_some {K : PySem.W.Frag} {H : Hp} {q : Addr} {kvs : List (Key × V)} {ss : List Str} {S : DkS} {x : Str} (h : kvs.map (·.1) = ss.map Sum.inr) (d : DicB K H q kvs S) (m : x ∈ ss) : ∃ ps, S x = some ps := by
  cases e : S x with
  | some ps => exact ⟨ps, rfl⟩
  | none =>
    have h1 := valV_not (d.no e)
    rw [h] at h1
    exact absurd (List.mem_map.mpr ⟨x, m, rfl⟩) h1
theorem nmI_so : ∀ a : Fin 26, ∀ t : Fin 5, ∀ r : Fin 4, PyData.strOk (nmI (a.val : Nat) (t.val : Nat) (r.val : Nat)) = true := by decide +kernel
theorem mI_so : ∀ i : Fin 3, PyData.strOk (Txt.mul (PySem.Str.ofString "m") (1 + ((i.val : Nat) : Int))) = true := by decide +kernel
theorem called_so (z : Int) {i : Int} (h0 : 0 ≤ i) (h : i < 3) : PyData.strOk (called z i) = true := by
  unfold called
  split
  · have := mI_so ⟨i.toNat, by omega⟩
    have e : ((i.toNat : Nat) : Int) = i := by omega
    simp only [e] at this
    exact this
  · have := nmI_so ⟨((z / 24 + 5 * i) % 26).toNat, by omega⟩ ⟨(z / 3 % 5).toNat, by omega⟩ ⟨(z % 4).toNat, by omega⟩
    have e1 : ((((z / 24 + 5 * i) % 26).toNat : Nat) : Int) = (z / 24 + 5 * i) % 26 := by omega
    have e2 : (((z / 3 % 5).toNat : Nat) : Int) = z / 3 % 5 := by omega
    have e3 : (((z % 4).toNat : Nat) : Int) = z % 4 := by omega
    simp only [e1, e2, e3] at this
    exact this
theorem abc_ok : Nm (PySem.Str.ofString "abcdefgh") ∧ PyData.strOk (PySem.Str.ofString "abcdefgh") = true := by unfold Nm; decide +kernel
theorem slen_app (a b : Str) : (a ++ b).length = a.length + b.length := by
  rw [← lenD, cl_app, List.length_append, lenD, lenD]
theorem dgS_1 : ∀ k : Fin 5, (dgS k.val).length ≤ 1 := by decide +kernel
theorem atS {zs : List Str} {i : Int} (h0 : 0 ≤ i) (h1 : i < ((zs.map V.str).length : Int)) : ∃ x, x ∈ zs ∧ atI (zs.map V.str) i = some (.str x) := by
  have hl : i.toNat < zs.length := by rw [List.length_map] at h1; omega
  refine ⟨zs[i.toNat], List.getElem_mem hl, ?_⟩
  have e : ((i.toNat : Nat) : Int) = i := by omega
  have := atI_nat (xs := zs.map V.str) (j := i.toNat) (v := .str zs[i.toNat]) (by rw [List.getElem?_map, List.getElem?_eq_getElem hl]; rfl)
  rw [e] at this
  exact this
end Lib
namespace L2
open PySem PySem.Spec PyProof.Rows
section
variable {X : Cx} {k : Nat} {C : Addr} {ps : List Str} {sp : Sp} {x : Str} {p pos : Pos}
theorem pe_mkB0 (M : MkC X.prog X.w X.K X.mg X.base k x C ps sp) (hr : RoomB true (k + 1) X.A) (hg : Gl X x := by rfl) (hdb : (x == ("__debug__" : Str)) = false := by decide) :
    PE X (.Call (.Name x p) [] [] pos) (tMake C sp [] E0 tNil) := by
  obtain ⟨f, fd, F, hm, hb⟩ := M.ex
  exact pe_make0 hm F.ok hr.room hg M.mg hb .nil pass01 hdb
end
end L2
namespace Lib
open PySem L2 Fr Op Tx
def spCell0 (K : PySem.W.Frag) : Sp := fun vs H Q _ => ∃ (a : Addr) (ns : List Int), vs = [.ref a, .int 0] ∧ SqL K H a (ns.map V.int) ∧ Q (.int (ns.headD 0)) H
section
variable {K : PySem.W.Frag} {H H' : Hp} {C o dx d dk ln q c a l o2 dx2 d2 : Addr} {L : List V} {S : DkS} {n : Nat} {ns : List Str} {ps : List Pc} {x : Str}
theorem mk_desk (no : H o = none) (ndx : H dx = none) (ne : dx ≠ o) (hd : upd (upd H dx (.own o)) o (.ins C dx []) d = none) :
    Same H (upd (upd (upd (upd H dx (.own o)) o (.ins C dx [])) d (.dK [])) o (.ins C dx [("benches", .ref d)])) ∧ DkA K (upd (upd (upd (upd H dx (.own o)) o (.ins C dx [])) d (.dK [])) o (.ins C dx [("benches", .ref d)])) q C o dx d (fun _ => none) 0 ∧ H d = none ∧ H o = none := by
  have n1 : d ≠ o := fun e => by rw [e, upd_same] at hd; cases hd
  rw [upd_ne n1] at hd
  have n2 : d ≠ dx := fun e => by rw [e, upd_same] at hd; cases hd
  rw [upd_ne n2] at hd
  refine ⟨fun b u e => ?_, ⟨upd_same, [], by rw [upd_ne n1]; exact upd_same, Nat.le_refl _, DicB.nil⟩, hd, no⟩
  rw [upd_ne (ne_of_none e no), upd_ne (ne_of_none e hd), upd_ne (ne_of_none e no), upd_ne (ne_of_none e ndx)]
  exact e
theorem DkA.beside {b1 b2 : Addr} {k1 k2 : List (Key × V)} (h : DkA K H q C o dx d (fun _ => none) 0) (s : S3 b1 b2 q H H') (h1 : H b1 = some (.dK k1)) (h2 : H b2 = some (.dK k2)) (dr : DrA H q c L) (n1 : d ≠ b1) (n2 : d ≠ b2) : DkA K H' q C o dx d (fun _ => none) 0 := by
  obtain ⟨kvs, e1, e2, e3⟩ := h.d
  obtain ⟨z, m, z0, hz⟩ := dr.d
  have eo := h.o
  refine ⟨s _ _ (fun e => by rw [e, h1] at eo; cases eo) (fun e => by rw [e, h2] at eo; cases eo) (fun e => by rw [e, hz] at eo; cases eo) eo, kvs, s _ _ n1 n2 (fun e => by rw [e, hz] at e1; cases e1) e1, e2, fun x => ?_⟩
  exact e3.no rfl
theorem thaw_same {f : Obj} {kvs : List (Key × V)} (hk : H dk = some (.dK kvs)) (s : Same (upd H dk (.frz f (.dK kvs))) H') : Same H (upd H' dk (.dK kvs)) := fun b u e => by
  by_cases z : b = dk
  · subst z
    rw [upd_same, ← hk, e]
  · rw [upd_ne z]
    exact s _ _ (by rw [upd_ne z]; exact e)
def nms (z : Int) : List Str := (List.range 3).map (fun j : Nat => called z (0 + (j : Int))) ++ [PySem.Str.ofString "abcdefgh"]
theorem nms_str (z : Int) : (List.range 3).map (fun j : Nat => V.str (called z (0 + (j : Int)))) ++ [V.str (PySem.Str.ofString "abcdefgh")] = (nms z).map V.str := by
  unfold nms
  rw [List.map_append, List.map_map]
  rfl
theorem nms_ok (z : Int) : ∀ x ∈ nms z, Nm x ∧ PyData.strOk x = true := fun x hx => by
  rcases List.mem_append.mp hx with h | h
  · obtain ⟨j, hj, rfl⟩ := List.mem_map.mp h
    have := List.mem_range.mp hj
    exact ⟨called_ok z (by omega) (by omega), called_so z (by omega) (by omega)⟩
  · rw [List.mem_singleton.mp h]; exact abc_ok
theorem nms_0 (z : Int) : atI ((nms z).map V.str) 0 = some (.str (called z 0)) := atI_nat (j := 0) rfl
theorem nms_1 (z : Int) : atI ((nms z).map V.str) 1 = some (.str (called z 1)) := atI_nat (j := 1) rfl
theorem row_e (x : Str) : rowB x (textL 5 []) = sOf "bench " ++ x ++ sOf " " := by
  refine ext ?_
  unfold rowB
  rw [cl_app, show cl (textL 5 ([] : List (Part 5))) = [] by decide +kernel, List.append_nil]
theorem setB_no {x y : Str} {ps : List Pc} (h : y ≠ x) : setB (fun _ => none) x ps y = none := if_neg h
theorem setB_at {S : DkS} {x : Str} {ps : List Pc} : setB S x ps x = some ps := if_pos rfl
end
end Lib
namespace K72
open PySem L2 Lib Fr Op
seal PE PT PW PA PS PSs PG PGs PI PO
def top (i : Nat) : Stmt := PySem.Challenge.pw_grindbench_k72_benches_made_of_others.main.body.getD i (.Pass ⟨0, 0, 0, 0⟩)
abbrev s_is_whole : Stmt := top 10
theorem sc_is_whole : FnScope ["thing"] ["thing"] (defScope s_is_whole) := ⟨rfl, rfl, rfl, by decide +kernel, rfl, by decide +kernel, by decide +kernel⟩
abbrev s_common_divisor : Stmt := top 11
theorem sc_common_divisor : FnScope ["one", "other", "greater", "lesser", "rest"] ["one", "other"] (defScope s_common_divisor) := ⟨rfl, rfl, rfl, by decide +kernel, rfl, by decide +kernel, by decide +kernel⟩
abbrev s_is_ratio : Stmt := top 12
theorem sc_is_ratio : FnScope ["thing", "top", "bottom"] ["thing"] (defScope s_is_ratio) := ⟨rfl, rfl, rfl, by decide +kernel, rfl, by decide +kernel, by decide +kernel⟩
abbrev s_ratio_of : Stmt := top 13
abbrev s_sum_of : Stmt := top 14
abbrev s_less_by : Stmt := top 15
abbrev s_product_of : Stmt := top 16
abbrev s_quotient_of : Stmt := top 17
abbrev s_is_less : Stmt := top 18
theorem sc_is_less : FnScope ["one", "other"] ["one", "other"] (defScope s_is_less) := ⟨rfl, rfl, rfl, by decide +kernel, rfl, by decide +kernel, by decide +kernel⟩
abbrev s_is_piece : Stmt := top 28
theorem sc_is_piece : FnScope ["thing"] ["thing"] (defScope s_is_piece) := ⟨rfl, rfl, rfl, by decide +kernel, rfl, by decide +kernel, by decide +kernel⟩
abbrev s_piece_of : Stmt := top 29
abbrev s_look_at : Stmt := top 30
theorem sc_look_at : FnScope ["bench", "number", "thing"] ["bench"] (defScope s_look_at) := ⟨rfl, rfl, rfl, by decide +kernel, rfl, by decide +kernel, by decide +kernel⟩
abbrev s_is_table : Stmt := top 35
abbrev s_look_at_table : Stmt := top 36
abbrev s_table_of_rays : Stmt := top 37
abbrev s_table_of : Stmt := top 38
abbrev s_made_by : Stmt := top 39
abbrev s_joined : Stmt := top 40
abbrev s_less : Stmt := top 42
abbrev s_part_short_of_one : Stmt := top 43
abbrev s_glass_gap_glass : Stmt := top 44
abbrev s_gap_glass_gap : Stmt := top 45
abbrev s_taken_apart : Stmt := top 46
abbrev s_is_stretch : Stmt := top 48
abbrev s_look_at_stretch : Stmt := top 49
abbrev s_is_box : Stmt := top 50
abbrev s_look_at_box : Stmt := top 51
abbrev s_limits_of : Stmt := top 53
abbrev s_is_before : Stmt := top 55
abbrev s_corners_of : Stmt := top 56
abbrev s_edges_of : Stmt := top 57
abbrev s_room_at : Stmt := top 58
abbrev s_crossing_of : Stmt := top 59
abbrev s_cut_by : Stmt := top 60
abbrev s_from_the_least : Stmt := top 61
abbrev s_field_of : Stmt := top 62
abbrev s_show_ratio : Stmt := top 66
theorem sc_show_ratio : FnScope ["one", "top", "bottom"] ["one"] (defScope s_show_ratio) := ⟨rfl, rfl, rfl, by decide +kernel, rfl, by decide +kernel, by decide +kernel⟩
abbrev s_read_part_figures : Stmt := top 67
theorem sc_read_part_figures : FnScope ["text"] ["text"] (defScope s_read_part_figures) := ⟨rfl, rfl, rfl, by decide +kernel, rfl, by decide +kernel, by decide +kernel⟩
abbrev s_read_ratio : Stmt := top 69
theorem sc_read_ratio : FnScope ["text", "is_below", "parts", "top", "bottom", "one"] ["text"] (defScope s_read_ratio) := ⟨rfl, rfl, rfl, by decide +kernel, rfl, by decide +kernel, by decide +kernel⟩
abbrev s_spread_of : Stmt := top 71
abbrev s_image_of : Stmt := top 72
abbrev s_growth_of : Stmt := top 73
abbrev s_in_order : Stmt := top 75
abbrev s_lesser_of : Stmt := top 76
abbrev s_greater_of : Stmt := top 77
abbrev s_slants_by : Stmt := top 78
abbrev s_slants_of : Stmt := top 79
abbrev s_height_at : Stmt := top 80
abbrev s_spots_of : Stmt := top 81
abbrev s_blur_of : Stmt := top 82
abbrev s_is_name : Stmt := top 86
theorem sc_is_name : FnScope ["thing"] ["thing"] (defScope s_is_name) := ⟨rfl, rfl, rfl, by decide +kernel, rfl, by decide +kernel, by decide +kernel⟩
abbrev s_walk_of : Stmt := top 88
abbrev s_rounds_of : Stmt := top 91
abbrev s_sharp_places : Stmt := top 96
abbrev s_words_of : Stmt := top 105
theorem sc_words_of : FnScope ["text", "words", "word"] ["text"] (defScope s_words_of) := ⟨rfl, rfl, rfl, by decide +kernel, rfl, by decide +kernel, by decide +kernel⟩
abbrev s_read_number_texts : Stmt := top 106
theorem sc_read_number_texts : FnScope ["word"] ["word"] (defScope s_read_number_texts) := ⟨rfl, rfl, rfl, by decide +kernel, rfl, by decide +kernel, by decide +kernel⟩
abbrev s_read_times : Stmt := top 108
theorem sc_read_times : FnScope ["word", "times"] ["word"] (defScope s_read_times) := ⟨rfl, rfl, rfl, by decide +kernel, rfl, by decide +kernel, by decide +kernel⟩
abbrev s_read_round : Stmt := top 109
theorem sc_read_round : FnScope ["reader", "word", "deep", "times", "parts"] ["reader", "word", "deep"] (defScope s_read_round) := ⟨rfl, rfl, rfl, by decide +kernel, rfl, by decide +kernel, by decide +kernel⟩
abbrev s_read_part_texts : Stmt := top 110
theorem sc_read_part_texts : FnScope ["reader", "deep", "word", "low", "high"] ["reader", "deep"] (defScope s_read_part_texts) := ⟨rfl, rfl, rfl, by decide +kernel, rfl, by decide +kernel, by decide +kernel⟩
abbrev s_read_parts : Stmt := top 112
theorem sc_read_parts : FnScope ["reader", "deep", "parts"] ["reader", "deep"] (defScope s_read_parts) := ⟨rfl, rfl, rfl, by decide +kernel, rfl, by decide +kernel, by decide +kernel⟩
abbrev s_count_of : Stmt := top 113
theorem sc_count_of : FnScope ["parts", "count", "part"] ["parts"] (defScope s_count_of) := ⟨rfl, rfl, rfl, by decide +kernel, rfl, by decide +kernel, by decide +kernel⟩
abbrev s_told_out : Stmt := top 114
theorem sc_told_out : FnScope ["parts", "pieces", "part"] ["parts"] (defScope s_told_out) := ⟨rfl, rfl, rfl, by decide +kernel, rfl, by decide +kernel, by decide +kernel⟩
abbrev s_read_bench : Stmt := top 115
theorem sc_read_bench : FnScope ["text", "reader", "parts"] ["text"] (defScope s_read_bench) := ⟨rfl, rfl, rfl, by decide +kernel, rfl, by decide +kernel, by decide +kernel⟩
abbrev s_show_piece : Stmt := top 116
theorem sc_show_piece : FnScope ["piece"] ["piece"] (defScope s_show_piece) := ⟨rfl, rfl, rfl, by decide +kernel, rfl, by decide +kernel, by decide +kernel⟩
abbrev s_show_bench : Stmt := top 117
theorem sc_show_bench : FnScope ["bench"] ["bench"] (defScope s_show_bench) := ⟨rfl, rfl, rfl, by decide +kernel, rfl, by decide +kernel, by decide +kernel⟩
abbrev s_turned_bench : Stmt := top 119
theorem sc_turned_bench : FnScope ["bench"] ["bench"] (defScope s_turned_bench) := ⟨rfl, rfl, rfl, by decide +kernel, rfl, by decide +kernel, by decide +kernel⟩
abbrev s_shown : Stmt := top 124
abbrev s_show_answer : Stmt := top 125
theorem sc_show_answer : FnScope ["bench", "numbers"] ["bench", "numbers"] (defScope s_show_answer) := ⟨rfl, rfl, rfl, by decide +kernel, rfl, by decide +kernel, by decide +kernel⟩
abbrev s_walk_answer : Stmt := top 126
abbrev s_table_answer : Stmt := top 127
abbrev s_apart_answer : Stmt := top 128
abbrev s_image_answer : Stmt := top 129
abbrev s_field_answer : Stmt := top 130
abbrev s_sharp_answer : Stmt := top 131
abbrev s_rounds_answer : Stmt := top 132
abbrev s_look_at_name : Stmt := top 134
theorem sc_look_at_name : FnScope ["word"] ["word"] (defScope s_look_at_name) := ⟨rfl, rfl, rfl, by decide +kernel, rfl, by decide +kernel, by decide +kernel⟩
abbrev s_read_number_desk : Stmt := top 135
theorem sc_read_number_desk : FnScope ["word"] ["word"] (defScope s_read_number_desk) := ⟨rfl, rfl, rfl, by decide +kernel, rfl, by decide +kernel, by decide +kernel⟩
abbrev s_read_row : Stmt := top 137
theorem sc_read_row : FnScope ["words", "form", "names", "name", "numbers"] ["words"] (defScope s_read_row) := ⟨rfl, rfl, rfl, by decide +kernel, rfl, by decide +kernel, by decide +kernel⟩
abbrev s__law_cell_at : Stmt := top 140
theorem sc__law_cell_at : FnScope ["_law_script", "_law_k"] ["_law_script", "_law_k"] (defScope s__law_cell_at) := ⟨rfl, rfl, rfl, by decide +kernel, rfl, by decide +kernel, by decide +kernel⟩
abbrev s__law_drawn : Stmt := top 141
theorem sc__law_drawn : FnScope ["_law_script", "_law_start"] ["_law_script", "_law_start"] (defScope s__law_drawn) := ⟨rfl, rfl, rfl, by decide +kernel, rfl, by decide +kernel, by decide +kernel⟩
abbrev s__law_draw : Stmt := top 142
theorem sc__law_draw : FnScope ["_law_drawn_here", "_law_many", "_law_cells", "_law_number"] ["_law_drawn_here", "_law_many"] (defScope s__law_draw) := ⟨rfl, rfl, rfl, by decide +kernel, rfl, by decide +kernel, by decide +kernel⟩
abbrev s__law_low : Stmt := top 143
theorem sc__law_low : FnScope ["_law_top", "_law_bottom", "_law_one", "_law_other"] ["_law_top", "_law_bottom"] (defScope s__law_low) := ⟨rfl, rfl, rfl, by decide +kernel, rfl, by decide +kernel, by decide +kernel⟩
abbrev s__law_under : Stmt := top 144
theorem sc__law_under : FnScope ["_law_one", "_law_other"] ["_law_one", "_law_other"] (defScope s__law_under) := ⟨rfl, rfl, rfl, by decide +kernel, rfl, by decide +kernel, by decide +kernel⟩
abbrev s__law_part : Stmt := top 145
theorem sc__law_part : FnScope ["_law_drawn_here", "_law_far", "_law_top", "_law_bottom"] ["_law_drawn_here", "_law_far"] (defScope s__law_part) := ⟨rfl, rfl, rfl, by decide +kernel, rfl, by decide +kernel, by decide +kernel⟩
abbrev s__law_piece : Stmt := top 146
theorem sc__law_piece : FnScope ["_law_drawn_here", "_law_far", "_law_way", "_law_one", "_law_other"] ["_law_drawn_here", "_law_far"] (defScope s__law_piece) := ⟨rfl, rfl, rfl, by decide +kernel, rfl, by decide +kernel, by decide +kernel⟩
abbrev s__law_plus : Stmt := top 147
theorem sc__law_plus : FnScope ["_law_one", "_law_other"] ["_law_one", "_law_other"] (defScope s__law_plus) := ⟨rfl, rfl, rfl, by decide +kernel, rfl, by decide +kernel, by decide +kernel⟩
abbrev s__law_less : Stmt := top 149
theorem sc__law_less : FnScope ["_law_one", "_law_other"] ["_law_one", "_law_other"] (defScope s__law_less) := ⟨rfl, rfl, rfl, by decide +kernel, rfl, by decide +kernel, by decide +kernel⟩
abbrev s__law_written : Stmt := top 150
theorem sc__law_written : FnScope ["_law_number", "_law_figures", "_law_left"] ["_law_number"] (defScope s__law_written) := ⟨rfl, rfl, rfl, by decide +kernel, rfl, by decide +kernel, by decide +kernel⟩
abbrev s__law_shown : Stmt := top 151
theorem sc__law_shown : FnScope ["_law_part_here"] ["_law_part_here"] (defScope s__law_shown) := ⟨rfl, rfl, rfl, by decide +kernel, rfl, by decide +kernel, by decide +kernel⟩
abbrev s__law_piece_text : Stmt := top 152
theorem sc__law_piece_text : FnScope ["_law_piece_here"] ["_law_piece_here"] (defScope s__law_piece_text) := ⟨rfl, rfl, rfl, by decide +kernel, rfl, by decide +kernel, by decide +kernel⟩
abbrev s__law_text : Stmt := top 153
theorem sc__law_text : FnScope ["_law_bench"] ["_law_bench"] (defScope s__law_text) := ⟨rfl, rfl, rfl, by decide +kernel, rfl, by decide +kernel, by decide +kernel⟩
abbrev s__law_called : Stmt := top 154
theorem sc__law_called : FnScope ["_law_number", "_law_k", "_law_letter", "_law_at"] ["_law_number", "_law_k"] (defScope s__law_called) := ⟨rfl, rfl, rfl, by decide +kernel, rfl, by decide +kernel, by decide +kernel⟩
abbrev s__law_benches : Stmt := top 155
theorem sc__law_benches : FnScope ["_law_drawn_here", "_law_many", "_law_least", "_law_found", "_law_k", "_law_bench", "_law_j", "_law_piece_here", "_law_low_here"] ["_law_drawn_here", "_law_many", "_law_least"] (defScope s__law_benches) := ⟨rfl, rfl, rfl, by decide +kernel, rfl, by decide +kernel, by decide +kernel⟩
abbrev s__law_is_unknown : Stmt := top 156
theorem sc__law_is_unknown : FnScope ["_law_desk", "_law_row"] ["_law_desk", "_law_row"] (defScope s__law_is_unknown) := ⟨rfl, rfl, rfl, by decide +kernel, rfl, by decide +kernel, by decide +kernel⟩
abbrev s__law_done : Stmt := top 157
theorem sc__law_done : FnScope ["_law_desk", "_law_kept", "_law_names", "_law_drawn_here", "_law_there", "_law_new", "_law_way", "_law_one", "_law_other", "_law_bench", "_law_text_here", "_law_many"] ["_law_desk", "_law_kept", "_law_names", "_law_drawn_here"] (defScope s__law_done) := ⟨rfl, rfl, rfl, by decide +kernel, rfl, by decide +kernel, by decide +kernel⟩
abbrev s_law : Stmt := top 158
theorem sc_law : FnScope ["_law_script", "_law_drawn_here", "_law_names", "_law_desk", "_law_beside", "_law_kept", "_law_cell", "_law_name", "_law_found"] ["_law_script"] (defScope s_law) := ⟨rfl, rfl, rfl, by decide +kernel, rfl, by decide +kernel, by decide +kernel⟩
abbrev s_Piece_lets : Stmt := inClass (top 24) 0
abbrev s_Piece_bent : Stmt := inClass (top 24) 1
abbrev s_Gap_init : Stmt := inClass (top 25) 0
abbrev s_Gap_bent : Stmt := inClass (top 25) 1
abbrev s_Glass_init : Stmt := inClass (top 26) 0
abbrev s_Glass_bent : Stmt := inClass (top 26) 1
abbrev s_Stop_init : Stmt := inClass (top 27) 0
abbrev s_Stop_lets : Stmt := inClass (top 27) 1
abbrev s_Reader_init : Stmt := inClass (top 104) 0
theorem sc_Reader_init : FnScope ["self", "words"] ["self", "words"] (defScope s_Reader_init) := ⟨rfl, rfl, rfl, by decide +kernel, rfl, by decide +kernel, by decide +kernel⟩
abbrev s_Reader_is_done : Stmt := inClass (top 104) 1
theorem sc_Reader_is_done : FnScope ["self"] ["self"] (defScope s_Reader_is_done) := ⟨rfl, rfl, rfl, by decide +kernel, rfl, by decide +kernel, by decide +kernel⟩
abbrev s_Reader_take : Stmt := inClass (top 104) 2
theorem sc_Reader_take : FnScope ["self"] ["self"] (defScope s_Reader_take) := ⟨rfl, rfl, rfl, by decide +kernel, rfl, by decide +kernel, by decide +kernel⟩
abbrev s_Reader_take_if : Stmt := inClass (top 104) 3
theorem sc_Reader_take_if : FnScope ["self", "word"] ["self", "word"] (defScope s_Reader_take_if) := ⟨rfl, rfl, rfl, by decide +kernel, rfl, by decide +kernel, by decide +kernel⟩
abbrev s_Desk_init : Stmt := inClass (top 138) 0
theorem sc_Desk_init : FnScope ["self"] ["self"] (defScope s_Desk_init) := ⟨rfl, rfl, rfl, by decide +kernel, rfl, by decide +kernel, by decide +kernel⟩
abbrev s_Desk_say : Stmt := inClass (top 138) 1
theorem sc_Desk_say : FnScope ["self", "row", "words", "read", "names"] ["self", "row"] (defScope s_Desk_say) := ⟨rfl, rfl, rfl, by decide +kernel, rfl, by decide +kernel, by decide +kernel⟩
abbrev s_Desk_lay : Stmt := inClass (top 138) 2
theorem sc_Desk_lay : FnScope ["self", "row", "words"] ["self", "row"] (defScope s_Desk_lay) := ⟨rfl, rfl, rfl, by decide +kernel, rfl, by decide +kernel, by decide +kernel⟩
abbrev s_Desk_bench_by : Stmt := inClass (top 138) 3
theorem sc_Desk_bench_by : FnScope ["self", "name"] ["self", "name"] (defScope s_Desk_bench_by) := ⟨rfl, rfl, rfl, by decide +kernel, rfl, by decide +kernel, by decide +kernel⟩
abbrev s_Desk_keep : Stmt := inClass (top 138) 4
theorem sc_Desk_keep : FnScope ["self", "name", "bench"] ["self", "name", "bench"] (defScope s_Desk_keep) := ⟨rfl, rfl, rfl, by decide +kernel, rfl, by decide +kernel, by decide +kernel⟩
structure Adr where
  z0 : Nat := 0
  BenchError : Addr
  NoNumber : Addr
  NoText : Addr
  NoTable : Addr
  NoBox : Addr
  NoRow : Addr
  Unknown : Addr
  NoBench : Addr
  Piece : Addr
  Gap : Addr
  Glass : Addr
  Stop : Addr
  Reader : Addr
  Desk : Addr
  NOUGHT : Addr
  ONE : Addr
  LEAVING : Addr
  ROWS : Addr
  ROWS_join : Addr
  ROWS_turn : Addr
  ROWS_show : Addr
  ROWS_walk : Addr
  ROWS_table : Addr
  ROWS_apart : Addr
  ROWS_image : Addr
  ROWS_field : Addr
  ROWS_sharp : Addr
  ROWS_rounds : Addr
  ANSWERS : Addr
  ANSWERS_show : Addr
  ANSWERS_walk : Addr
  ANSWERS_table : Addr
  ANSWERS_apart : Addr
  ANSWERS_image : Addr
  ANSWERS_field : Addr
  ANSWERS_sharp : Addr
  ANSWERS_rounds : Addr
  tGAP : Tok
  tGLASS : Tok
  tSTOP : Tok
  tMOST_PIECES : Tok
  tFIGURES : Tok
  tMOST_FIGURES : Tok
  tPARTED : Tok
  tTIMES : Tok
  tOPENED : Tok
  tCLOSED : Tok
  tMOST_TIMES : Tok
  tMOST_DEEP : Tok
  tLETTERS : Tok
  tMOST_LETTERS : Tok
  tDONE : Tok
  tNONE : Tok
  pr : Params
structure Exc (K : PySem.W.Frag) (mg : Str → Option Value) (ad : Adr) : Prop where
  tt : True := trivial
  m_BenchError : mg "BenchError" = some (.ref ad.BenchError)
  m_NoNumber : mg "NoNumber" = some (.ref ad.NoNumber)
  m_NoText : mg "NoText" = some (.ref ad.NoText)
  m_NoTable : mg "NoTable" = some (.ref ad.NoTable)
  m_NoBox : mg "NoBox" = some (.ref ad.NoBox)
  m_NoRow : mg "NoRow" = some (.ref ad.NoRow)
  m_Unknown : mg "Unknown" = some (.ref ad.Unknown)
  m_NoBench : mg "NoBench" = some (.ref ad.NoBench)
  m_Piece : mg "Piece" = some (.ref ad.Piece)
  m_Gap : mg "Gap" = some (.ref ad.Gap)
  m_Glass : mg "Glass" = some (.ref ad.Glass)
  m_Stop : mg "Stop" = some (.ref ad.Stop)
  m_Reader : mg "Reader" = some (.ref ad.Reader)
  m_Desk : mg "Desk" = some (.ref ad.Desk)
  m_GAP : mg "GAP" = some (.str "gap" ad.tGAP)
  m_GLASS : mg "GLASS" = some (.str "glass" ad.tGLASS)
  m_STOP : mg "STOP" = some (.str "stop" ad.tSTOP)
  m_MOST_PIECES : mg "MOST_PIECES" = some (.int 60 ad.tMOST_PIECES)
  m_FIGURES : mg "FIGURES" = some (.str "0123456789" ad.tFIGURES)
  m_MOST_FIGURES : mg "MOST_FIGURES" = some (.int 15 ad.tMOST_FIGURES)
  m_PARTED : mg "PARTED" = some (.str ";" ad.tPARTED)
  m_TIMES : mg "TIMES" = some (.str "times" ad.tTIMES)
  m_OPENED : mg "OPENED" = some (.str "(" ad.tOPENED)
  m_CLOSED : mg "CLOSED" = some (.str ")" ad.tCLOSED)
  m_MOST_TIMES : mg "MOST_TIMES" = some (.int 60 ad.tMOST_TIMES)
  m_MOST_DEEP : mg "MOST_DEEP" = some (.int 4 ad.tMOST_DEEP)
  m_LETTERS : mg "LETTERS" = some (.str "abcdefghijklmnopqrstuvwxyz" ad.tLETTERS)
  m_MOST_LETTERS : mg "MOST_LETTERS" = some (.int 8 ad.tMOST_LETTERS)
  m_DONE : mg "DONE" = some (.str "ok" ad.tDONE)
  m_NONE : mg "NONE" = some (.str "none" ad.tNONE)
  c_NoText : ExcCls K mg "NoText" ad.NoText
  c_Unknown : ExcCls K mg "Unknown" ad.Unknown
  x_NoText_NoText : PySem.W.exmOne K (.ref ad.NoText) (.ref ad.NoText) = some true
  x_Unknown_Unknown : PySem.W.exmOne K (.ref ad.Unknown) (.ref ad.Unknown) = some true
  l_Gap : Cls K ad.Gap
  i_Gap : MkFn K mg "Gap" ad.Gap "Gap.__init__" s_Gap_init
  q_Gap_lets : MtFn K ad.Gap "lets" "Piece.lets" s_Piece_lets
  q_Gap_bent : MtFn K ad.Gap "bent" "Gap.bent" s_Gap_bent
  n_Gap_length : NoAttr K ad.Gap "length"
  l_Glass : Cls K ad.Glass
  i_Glass : MkFn K mg "Glass" ad.Glass "Glass.__init__" s_Glass_init
  q_Glass_lets : MtFn K ad.Glass "lets" "Piece.lets" s_Piece_lets
  q_Glass_bent : MtFn K ad.Glass "bent" "Glass.bent" s_Glass_bent
  n_Glass_strength : NoAttr K ad.Glass "strength"
  l_Stop : Cls K ad.Stop
  i_Stop : MkFn K mg "Stop" ad.Stop "Stop.__init__" s_Stop_init
  q_Stop_lets : MtFn K ad.Stop "lets" "Stop.lets" s_Stop_lets
  q_Stop_bent : MtFn K ad.Stop "bent" "Piece.bent" s_Piece_bent
  n_Stop_low : NoAttr K ad.Stop "low"
  n_Stop_high : NoAttr K ad.Stop "high"
  l_Reader : Cls K ad.Reader
  i_Reader : MkFn K mg "Reader" ad.Reader "Reader.__init__" s_Reader_init
  q_Reader_is_done : MtFn K ad.Reader "is_done" "Reader.is_done" s_Reader_is_done
  q_Reader_take : MtFn K ad.Reader "take" "Reader.take" s_Reader_take
  q_Reader_take_if : MtFn K ad.Reader "take_if" "Reader.take_if" s_Reader_take_if
  n_Reader_words : NoAttr K ad.Reader "words"
  n_Reader_place : NoAttr K ad.Reader "place"
  l_Desk : Cls K ad.Desk
  i_Desk : MkFn K mg "Desk" ad.Desk "Desk.__init__" s_Desk_init
  q_Desk_say : MtFn K ad.Desk "say" "Desk.say" s_Desk_say
  q_Desk_lay : MtFn K ad.Desk "lay" "Desk.lay" s_Desk_lay
  q_Desk_bench_by : MtFn K ad.Desk "bench_by" "Desk.bench_by" s_Desk_bench_by
  q_Desk_keep : MtFn K ad.Desk "keep" "Desk.keep" s_Desk_keep
  n_Desk_benches : NoAttr K ad.Desk "benches"
  m_NOUGHT : mg "NOUGHT" = some (.ref ad.NOUGHT)
  s_NOUGHT : ∀ H : Hp, SqT K H ad.NOUGHT [.int 0, .int 1]
  m_ONE : mg "ONE" = some (.ref ad.ONE)
  s_ONE : ∀ H : Hp, SqT K H ad.ONE [.int 1, .int 1]
  m_LEAVING : mg "LEAVING" = some (.ref ad.LEAVING)
  s_LEAVING : ∀ H : Hp, SqT K H ad.LEAVING [.ref ad.ONE, .ref ad.NOUGHT, .ref ad.NOUGHT, .ref ad.ONE]
  m_ROWS : mg "ROWS" = some (.ref ad.ROWS)
  g_ROWS : ∀ (P : Program) (w : World), w.params = ad.pr → DKG P w K ad.ROWS (dkS [("join", V.ref ad.ROWS_join), ("turn", V.ref ad.ROWS_turn), ("show", V.ref ad.ROWS_show), ("walk", V.ref ad.ROWS_walk), ("table", V.ref ad.ROWS_table), ("apart", V.ref ad.ROWS_apart), ("image", V.ref ad.ROWS_image), ("field", V.ref ad.ROWS_field), ("sharp", V.ref ad.ROWS_sharp), ("rounds", V.ref ad.ROWS_rounds)])
  s_ROWS_join : ∀ H : Hp, SqT K H ad.ROWS_join [.int 3, .int 0]
  s_ROWS_turn : ∀ H : Hp, SqT K H ad.ROWS_turn [.int 2, .int 0]
  s_ROWS_show : ∀ H : Hp, SqT K H ad.ROWS_show [.int 1, .int 0]
  s_ROWS_walk : ∀ H : Hp, SqT K H ad.ROWS_walk [.int 1, .int 2]
  s_ROWS_table : ∀ H : Hp, SqT K H ad.ROWS_table [.int 1, .int 0]
  s_ROWS_apart : ∀ H : Hp, SqT K H ad.ROWS_apart [.int 1, .int 0]
  s_ROWS_image : ∀ H : Hp, SqT K H ad.ROWS_image [.int 1, .int 1]
  s_ROWS_field : ∀ H : Hp, SqT K H ad.ROWS_field [.int 1, .int 4]
  s_ROWS_sharp : ∀ H : Hp, SqT K H ad.ROWS_sharp [.int 1, .int 5]
  s_ROWS_rounds : ∀ H : Hp, SqT K H ad.ROWS_rounds [.int 1, .int 0]
  m_ANSWERS : mg "ANSWERS" = some (.ref ad.ANSWERS)
  f_ANSWERS_show : mg "show_answer" = some (.ref ad.ANSWERS_show)
  f_ANSWERS_walk : mg "walk_answer" = some (.ref ad.ANSWERS_walk)
  f_ANSWERS_table : mg "table_answer" = some (.ref ad.ANSWERS_table)
  f_ANSWERS_apart : mg "apart_answer" = some (.ref ad.ANSWERS_apart)
  f_ANSWERS_image : mg "image_answer" = some (.ref ad.ANSWERS_image)
  f_ANSWERS_field : mg "field_answer" = some (.ref ad.ANSWERS_field)
  f_ANSWERS_sharp : mg "sharp_answer" = some (.ref ad.ANSWERS_sharp)
  f_ANSWERS_rounds : mg "rounds_answer" = some (.ref ad.ANSWERS_rounds)
  g_ANSWERS : ∀ (P : Program) (w : World), w.params = ad.pr → DKG P w K ad.ANSWERS (dkS [("show", V.ref ad.ANSWERS_show), ("walk", V.ref ad.ANSWERS_walk), ("table", V.ref ad.ANSWERS_table), ("apart", V.ref ad.ANSWERS_apart), ("image", V.ref ad.ANSWERS_image), ("field", V.ref ad.ANSWERS_field), ("sharp", V.ref ad.ANSWERS_sharp), ("rounds", V.ref ad.ANSWERS_rounds)])
structure Txt (K : PySem.W.Frag) (mg : Str → Option Value) (ad : Adr) : Prop where
  ex : Exc K mg ad
  abs : mg "abs" = none
  all : mg "all" = none
  bool : mg "bool" = none
  enumerate : mg "enumerate" = none
  int : mg "int" = none
  isinstance : mg "isinstance" = none
  len : mg "len" = none
  list : mg "list" = none
  range : mg "range" = none
  reversed : mg "reversed" = none
  sorted : mg "sorted" = none
  str : mg "str" = none
  tuple : mg "tuple" = none
  t_is_whole : TopFn K mg "is_whole" s_is_whole
  t_common_divisor : TopFn K mg "common_divisor" s_common_divisor
  t_is_ratio : TopFn K mg "is_ratio" s_is_ratio
  t_ratio_of : TopFn K mg "ratio_of" s_ratio_of
  t_sum_of : TopFn K mg "sum_of" s_sum_of
  t_less_by : TopFn K mg "less_by" s_less_by
  t_product_of : TopFn K mg "product_of" s_product_of
  t_quotient_of : TopFn K mg "quotient_of" s_quotient_of
  t_is_less : TopFn K mg "is_less" s_is_less
  t_is_piece : TopFn K mg "is_piece" s_is_piece
  t_piece_of : TopFn K mg "piece_of" s_piece_of
  t_look_at : TopFn K mg "look_at" s_look_at
  t_is_table : TopFn K mg "is_table" s_is_table
  t_look_at_table : TopFn K mg "look_at_table" s_look_at_table
  t_table_of_rays : TopFn K mg "table_of_rays" s_table_of_rays
  t_table_of : TopFn K mg "table_of" s_table_of
  t_made_by : TopFn K mg "made_by" s_made_by
  t_joined : TopFn K mg "joined" s_joined
  t_less : TopFn K mg "less" s_less
  t_part_short_of_one : TopFn K mg "part_short_of_one" s_part_short_of_one
  t_glass_gap_glass : TopFn K mg "glass_gap_glass" s_glass_gap_glass
  t_gap_glass_gap : TopFn K mg "gap_glass_gap" s_gap_glass_gap
  t_taken_apart : TopFn K mg "taken_apart" s_taken_apart
  t_is_stretch : TopFn K mg "is_stretch" s_is_stretch
  t_look_at_stretch : TopFn K mg "look_at_stretch" s_look_at_stretch
  t_is_box : TopFn K mg "is_box" s_is_box
  t_look_at_box : TopFn K mg "look_at_box" s_look_at_box
  t_limits_of : TopFn K mg "limits_of" s_limits_of
  t_is_before : TopFn K mg "is_before" s_is_before
  t_corners_of : TopFn K mg "corners_of" s_corners_of
  t_edges_of : TopFn K mg "edges_of" s_edges_of
  t_room_at : TopFn K mg "room_at" s_room_at
  t_crossing_of : TopFn K mg "crossing_of" s_crossing_of
  t_cut_by : TopFn K mg "cut_by" s_cut_by
  t_from_the_least : TopFn K mg "from_the_least" s_from_the_least
  t_field_of : TopFn K mg "field_of" s_field_of
  t_show_ratio : TopFn K mg "show_ratio" s_show_ratio
  t_read_part_figures : TopFnA K mg "read_part_figures" "read_part" s_read_part_figures
  t_read_ratio : TopFn K mg "read_ratio" s_read_ratio
  t_spread_of : TopFn K mg "spread_of" s_spread_of
  t_image_of : TopFn K mg "image_of" s_image_of
  t_growth_of : TopFn K mg "growth_of" s_growth_of
  t_in_order : TopFn K mg "in_order" s_in_order
  t_lesser_of : TopFn K mg "lesser_of" s_lesser_of
  t_greater_of : TopFn K mg "greater_of" s_greater_of
  t_slants_by : TopFn K mg "slants_by" s_slants_by
  t_slants_of : TopFn K mg "slants_of" s_slants_of
  t_height_at : TopFn K mg "height_at" s_height_at
  t_spots_of : TopFn K mg "spots_of" s_spots_of
  t_blur_of : TopFn K mg "blur_of" s_blur_of
  t_is_name : TopFn K mg "is_name" s_is_name
  t_walk_of : TopFn K mg "walk_of" s_walk_of
  t_rounds_of : TopFn K mg "rounds_of" s_rounds_of
  t_sharp_places : TopFn K mg "sharp_places" s_sharp_places
  t_words_of : TopFn K mg "words_of" s_words_of
  t_read_number_texts : TopFnA K mg "read_number_texts" "read_number" s_read_number_texts
  t_read_times : TopFn K mg "read_times" s_read_times
  t_read_round : TopFn K mg "read_round" s_read_round
  t_read_part_texts : TopFnA K mg "read_part_texts" "read_part" s_read_part_texts
  t_read_parts : TopFn K mg "read_parts" s_read_parts
  t_count_of : TopFn K mg "count_of" s_count_of
  t_told_out : TopFn K mg "told_out" s_told_out
  t_read_bench : TopFn K mg "read_bench" s_read_bench
  t_show_piece : TopFn K mg "show_piece" s_show_piece
  t_show_bench : TopFn K mg "show_bench" s_show_bench
  t_turned_bench : TopFn K mg "turned_bench" s_turned_bench
  t_shown : TopFn K mg "shown" s_shown
  t_show_answer : TopFn K mg "show_answer" s_show_answer
  t_walk_answer : TopFn K mg "walk_answer" s_walk_answer
  t_table_answer : TopFn K mg "table_answer" s_table_answer
  t_apart_answer : TopFn K mg "apart_answer" s_apart_answer
  t_image_answer : TopFn K mg "image_answer" s_image_answer
  t_field_answer : TopFn K mg "field_answer" s_field_answer
  t_sharp_answer : TopFn K mg "sharp_answer" s_sharp_answer
  t_rounds_answer : TopFn K mg "rounds_answer" s_rounds_answer
  t_look_at_name : TopFn K mg "look_at_name" s_look_at_name
  t_read_number_desk : TopFnA K mg "read_number_desk" "read_number" s_read_number_desk
  t_read_row : TopFn K mg "read_row" s_read_row
  t__law_cell_at : TopFn K mg "_law_cell_at" s__law_cell_at
  t__law_drawn : TopFn K mg "_law_drawn" s__law_drawn
  t__law_draw : TopFn K mg "_law_draw" s__law_draw
  t__law_low : TopFn K mg "_law_low" s__law_low
  t__law_under : TopFn K mg "_law_under" s__law_under
  t__law_part : TopFn K mg "_law_part" s__law_part
  t__law_piece : TopFn K mg "_law_piece" s__law_piece
  t__law_plus : TopFn K mg "_law_plus" s__law_plus
  t__law_less : TopFn K mg "_law_less" s__law_less
  t__law_written : TopFn K mg "_law_written" s__law_written
  t__law_shown : TopFn K mg "_law_shown" s__law_shown
  t__law_piece_text : TopFn K mg "_law_piece_text" s__law_piece_text
  t__law_text : TopFn K mg "_law_text" s__law_text
  t__law_called : TopFn K mg "_law_called" s__law_called
  t__law_benches : TopFn K mg "_law_benches" s__law_benches
  t__law_is_unknown : TopFn K mg "_law_is_unknown" s__law_is_unknown
  t__law_done : TopFn K mg "_law_done" s__law_done
theorem exc_mk {K : PySem.W.Frag} {h : Heap} {mg : Str → Option Value} {CBenchError CNoNumber CNoText CNoTable CNoBox CNoRow CUnknown CNoBench CPiece CGap CGlass CStop CReader CDesk CNOUGHT CONE CLEAVING CROWS CROWS_join CROWS_turn CROWS_show CROWS_walk CROWS_table CROWS_apart CROWS_image CROWS_field CROWS_sharp CROWS_rounds CANSWERS CANSWERS_show CANSWERS_walk CANSWERS_table CANSWERS_apart CANSWERS_image CANSWERS_field CANSWERS_sharp CANSWERS_rounds : Addr} {tGAP : Tok} {tGLASS : Tok} {tSTOP : Tok} {tMOST_PIECES : Tok} {tFIGURES : Tok} {tMOST_FIGURES : Tok} {tPARTED : Tok} {tTIMES : Tok} {tOPENED : Tok} {tCLOSED : Tok} {tMOST_TIMES : Tok} {tMOST_DEEP : Tok} {tLETTERS : Tok} {tMOST_LETTERS : Tok} {tDONE : Tok} {tNONE : Tok} {f_Gap_init : Addr} {oc_Gap_init : Value} {od_Gap_init an_Gap_init : Option Addr} {sl_Gap_init : Array (Option Value)} {kV_Gap_init dc_Gap_init pm_Gap_init cd_Gap_init ct_Gap_init : Value} {f_Gap_lets : Addr} {oc_Gap_lets : Value} {od_Gap_lets an_Gap_lets : Option Addr} {sl_Gap_lets : Array (Option Value)} {kV_Gap_lets dc_Gap_lets pm_Gap_lets cd_Gap_lets ct_Gap_lets : Value} {f_Gap_bent : Addr} {oc_Gap_bent : Value} {od_Gap_bent an_Gap_bent : Option Addr} {sl_Gap_bent : Array (Option Value)} {kV_Gap_bent dc_Gap_bent pm_Gap_bent cd_Gap_bent ct_Gap_bent : Value} {f_Glass_init : Addr} {oc_Glass_init : Value} {od_Glass_init an_Glass_init : Option Addr} {sl_Glass_init : Array (Option Value)} {kV_Glass_init dc_Glass_init pm_Glass_init cd_Glass_init ct_Glass_init : Value} {f_Glass_lets : Addr} {oc_Glass_lets : Value} {od_Glass_lets an_Glass_lets : Option Addr} {sl_Glass_lets : Array (Option Value)} {kV_Glass_lets dc_Glass_lets pm_Glass_lets cd_Glass_lets ct_Glass_lets : Value} {f_Glass_bent : Addr} {oc_Glass_bent : Value} {od_Glass_bent an_Glass_bent : Option Addr} {sl_Glass_bent : Array (Option Value)} {kV_Glass_bent dc_Glass_bent pm_Glass_bent cd_Glass_bent ct_Glass_bent : Value} {f_Stop_init : Addr} {oc_Stop_init : Value} {od_Stop_init an_Stop_init : Option Addr} {sl_Stop_init : Array (Option Value)} {kV_Stop_init dc_Stop_init pm_Stop_init cd_Stop_init ct_Stop_init : Value} {f_Stop_lets : Addr} {oc_Stop_lets : Value} {od_Stop_lets an_Stop_lets : Option Addr} {sl_Stop_lets : Array (Option Value)} {kV_Stop_lets dc_Stop_lets pm_Stop_lets cd_Stop_lets ct_Stop_lets : Value} {f_Stop_bent : Addr} {oc_Stop_bent : Value} {od_Stop_bent an_Stop_bent : Option Addr} {sl_Stop_bent : Array (Option Value)} {kV_Stop_bent dc_Stop_bent pm_Stop_bent cd_Stop_bent ct_Stop_bent : Value} {f_Reader_init : Addr} {oc_Reader_init : Value} {od_Reader_init an_Reader_init : Option Addr} {sl_Reader_init : Array (Option Value)} {kV_Reader_init dc_Reader_init pm_Reader_init cd_Reader_init ct_Reader_init : Value} {f_Reader_is_done : Addr} {oc_Reader_is_done : Value} {od_Reader_is_done an_Reader_is_done : Option Addr} {sl_Reader_is_done : Array (Option Value)} {kV_Reader_is_done dc_Reader_is_done pm_Reader_is_done cd_Reader_is_done ct_Reader_is_done : Value} {f_Reader_take : Addr} {oc_Reader_take : Value} {od_Reader_take an_Reader_take : Option Addr} {sl_Reader_take : Array (Option Value)} {kV_Reader_take dc_Reader_take pm_Reader_take cd_Reader_take ct_Reader_take : Value} {f_Reader_take_if : Addr} {oc_Reader_take_if : Value} {od_Reader_take_if an_Reader_take_if : Option Addr} {sl_Reader_take_if : Array (Option Value)} {kV_Reader_take_if dc_Reader_take_if pm_Reader_take_if cd_Reader_take_if ct_Reader_take_if : Value} {f_Desk_init : Addr} {oc_Desk_init : Value} {od_Desk_init an_Desk_init : Option Addr} {sl_Desk_init : Array (Option Value)} {kV_Desk_init dc_Desk_init pm_Desk_init cd_Desk_init ct_Desk_init : Value} {f_Desk_say : Addr} {oc_Desk_say : Value} {od_Desk_say an_Desk_say : Option Addr} {sl_Desk_say : Array (Option Value)} {kV_Desk_say dc_Desk_say pm_Desk_say cd_Desk_say ct_Desk_say : Value} {f_Desk_lay : Addr} {oc_Desk_lay : Value} {od_Desk_lay an_Desk_lay : Option Addr} {sl_Desk_lay : Array (Option Value)} {kV_Desk_lay dc_Desk_lay pm_Desk_lay cd_Desk_lay ct_Desk_lay : Value} {f_Desk_bench_by : Addr} {oc_Desk_bench_by : Value} {od_Desk_bench_by an_Desk_bench_by : Option Addr} {sl_Desk_bench_by : Array (Option Value)} {kV_Desk_bench_by dc_Desk_bench_by pm_Desk_bench_by cd_Desk_bench_by ct_Desk_bench_by : Value} {f_Desk_keep : Addr} {oc_Desk_keep : Value} {od_Desk_keep an_Desk_keep : Option Addr} {sl_Desk_keep : Array (Option Value)} {kV_Desk_keep dc_Desk_keep pm_Desk_keep cd_Desk_keep ct_Desk_keep : Value} {tk_NOUGHT_0 : Tok} {tk_NOUGHT_1 : Tok} {dd_NOUGHT : Option Addr} {nn_NOUGHT : Nat} {sl_NOUGHT : Array (Option Value)} {tk_ONE_0 : Tok} {tk_ONE_1 : Tok} {dd_ONE : Option Addr} {nn_ONE : Nat} {sl_ONE : Array (Option Value)} {dd_LEAVING : Option Addr} {nn_LEAVING : Nat} {sl_LEAVING : Array (Option Value)} {h_ROWS_join : Int} {kt_ROWS_join : Tok} {h_ROWS_turn : Int} {kt_ROWS_turn : Tok} {h_ROWS_show : Int} {kt_ROWS_show : Tok} {h_ROWS_walk : Int} {kt_ROWS_walk : Tok} {h_ROWS_table : Int} {kt_ROWS_table : Tok} {h_ROWS_apart : Int} {kt_ROWS_apart : Tok} {h_ROWS_image : Int} {kt_ROWS_image : Tok} {h_ROWS_field : Int} {kt_ROWS_field : Tok} {h_ROWS_sharp : Int} {kt_ROWS_sharp : Tok} {h_ROWS_rounds : Int} {kt_ROWS_rounds : Tok} {ep_ROWS : Nat} {tk_ROWS_join_0 : Tok} {tk_ROWS_join_1 : Tok} {dd_ROWS_join : Option Addr} {nn_ROWS_join : Nat} {sl_ROWS_join : Array (Option Value)} {tk_ROWS_turn_0 : Tok} {tk_ROWS_turn_1 : Tok} {dd_ROWS_turn : Option Addr} {nn_ROWS_turn : Nat} {sl_ROWS_turn : Array (Option Value)} {tk_ROWS_show_0 : Tok} {tk_ROWS_show_1 : Tok} {dd_ROWS_show : Option Addr} {nn_ROWS_show : Nat} {sl_ROWS_show : Array (Option Value)} {tk_ROWS_walk_0 : Tok} {tk_ROWS_walk_1 : Tok} {dd_ROWS_walk : Option Addr} {nn_ROWS_walk : Nat} {sl_ROWS_walk : Array (Option Value)} {tk_ROWS_table_0 : Tok} {tk_ROWS_table_1 : Tok} {dd_ROWS_table : Option Addr} {nn_ROWS_table : Nat} {sl_ROWS_table : Array (Option Value)} {tk_ROWS_apart_0 : Tok} {tk_ROWS_apart_1 : Tok} {dd_ROWS_apart : Option Addr} {nn_ROWS_apart : Nat} {sl_ROWS_apart : Array (Option Value)} {tk_ROWS_image_0 : Tok} {tk_ROWS_image_1 : Tok} {dd_ROWS_image : Option Addr} {nn_ROWS_image : Nat} {sl_ROWS_image : Array (Option Value)} {tk_ROWS_field_0 : Tok} {tk_ROWS_field_1 : Tok} {dd_ROWS_field : Option Addr} {nn_ROWS_field : Nat} {sl_ROWS_field : Array (Option Value)} {tk_ROWS_sharp_0 : Tok} {tk_ROWS_sharp_1 : Tok} {dd_ROWS_sharp : Option Addr} {nn_ROWS_sharp : Nat} {sl_ROWS_sharp : Array (Option Value)} {tk_ROWS_rounds_0 : Tok} {tk_ROWS_rounds_1 : Tok} {dd_ROWS_rounds : Option Addr} {nn_ROWS_rounds : Nat} {sl_ROWS_rounds : Array (Option Value)} {h_ANSWERS_show : Int} {kt_ANSWERS_show : Tok} {h_ANSWERS_walk : Int} {kt_ANSWERS_walk : Tok} {h_ANSWERS_table : Int} {kt_ANSWERS_table : Tok} {h_ANSWERS_apart : Int} {kt_ANSWERS_apart : Tok} {h_ANSWERS_image : Int} {kt_ANSWERS_image : Tok} {h_ANSWERS_field : Int} {kt_ANSWERS_field : Tok} {h_ANSWERS_sharp : Int} {kt_ANSWERS_sharp : Tok} {h_ANSWERS_rounds : Int} {kt_ANSWERS_rounds : Tok} {ep_ANSWERS : Nat} (pr : Params) (X : K.In h) (G : h.Ns mainGlobals mg) (m_BenchError : PySem.W.nsIn K mainGlobals "BenchError" = some (some (.ref CBenchError))) (m_NoNumber : PySem.W.nsIn K mainGlobals "NoNumber" = some (some (.ref CNoNumber))) (m_NoText : PySem.W.nsIn K mainGlobals "NoText" = some (some (.ref CNoText))) (m_NoTable : PySem.W.nsIn K mainGlobals "NoTable" = some (some (.ref CNoTable))) (m_NoBox : PySem.W.nsIn K mainGlobals "NoBox" = some (some (.ref CNoBox))) (m_NoRow : PySem.W.nsIn K mainGlobals "NoRow" = some (some (.ref CNoRow))) (m_Unknown : PySem.W.nsIn K mainGlobals "Unknown" = some (some (.ref CUnknown))) (m_NoBench : PySem.W.nsIn K mainGlobals "NoBench" = some (some (.ref CNoBench))) (m_Piece : PySem.W.nsIn K mainGlobals "Piece" = some (some (.ref CPiece))) (m_Gap : PySem.W.nsIn K mainGlobals "Gap" = some (some (.ref CGap))) (m_Glass : PySem.W.nsIn K mainGlobals "Glass" = some (some (.ref CGlass))) (m_Stop : PySem.W.nsIn K mainGlobals "Stop" = some (some (.ref CStop))) (m_Reader : PySem.W.nsIn K mainGlobals "Reader" = some (some (.ref CReader))) (m_Desk : PySem.W.nsIn K mainGlobals "Desk" = some (some (.ref CDesk))) (m_GAP : PySem.W.nsIn K mainGlobals "GAP" = some (some (.str "gap" tGAP))) (m_GLASS : PySem.W.nsIn K mainGlobals "GLASS" = some (some (.str "glass" tGLASS))) (m_STOP : PySem.W.nsIn K mainGlobals "STOP" = some (some (.str "stop" tSTOP))) (m_MOST_PIECES : PySem.W.nsIn K mainGlobals "MOST_PIECES" = some (some (.int 60 tMOST_PIECES))) (m_FIGURES : PySem.W.nsIn K mainGlobals "FIGURES" = some (some (.str "0123456789" tFIGURES))) (m_MOST_FIGURES : PySem.W.nsIn K mainGlobals "MOST_FIGURES" = some (some (.int 15 tMOST_FIGURES))) (m_PARTED : PySem.W.nsIn K mainGlobals "PARTED" = some (some (.str ";" tPARTED))) (m_TIMES : PySem.W.nsIn K mainGlobals "TIMES" = some (some (.str "times" tTIMES))) (m_OPENED : PySem.W.nsIn K mainGlobals "OPENED" = some (some (.str "(" tOPENED))) (m_CLOSED : PySem.W.nsIn K mainGlobals "CLOSED" = some (some (.str ")" tCLOSED))) (m_MOST_TIMES : PySem.W.nsIn K mainGlobals "MOST_TIMES" = some (some (.int 60 tMOST_TIMES))) (m_MOST_DEEP : PySem.W.nsIn K mainGlobals "MOST_DEEP" = some (some (.int 4 tMOST_DEEP))) (m_LETTERS : PySem.W.nsIn K mainGlobals "LETTERS" = some (some (.str "abcdefghijklmnopqrstuvwxyz" tLETTERS))) (m_MOST_LETTERS : PySem.W.nsIn K mainGlobals "MOST_LETTERS" = some (some (.int 8 tMOST_LETTERS))) (m_DONE : PySem.W.nsIn K mainGlobals "DONE" = some (some (.str "ok" tDONE))) (m_NONE : PySem.W.nsIn K mainGlobals "NONE" = some (some (.str "none" tNONE))) (o_NoText : PySem.W.excIn K CNoText [.type "ValueError", .type "Exception", .type "BaseException", .type "object"] "ValueError.__new__" = true) (o_Unknown : PySem.W.excIn K CUnknown [.type "ValueError", .type "Exception", .type "BaseException", .type "object"] "ValueError.__new__" = true) (x_NoText_NoText : PySem.W.exmOne K (.ref CNoText) (.ref CNoText) = some true) (x_Unknown_Unknown : PySem.W.exmOne K (.ref CUnknown) (.ref CUnknown) = some true) (pg_Gap : PySem.W.plainGet K CGap Str.empty = true) (hd_Gap : PySem.W.hasDictIn K CGap = true) (po_Gap : PySem.W.plainOver K CGap = true) (sa_Gap : PySem.W.findIn K (.ref CGap) "__setattr__" = some (some (.builtin "object.__setattr__"))) (mk_Gap_init : PySem.W.makesIn K CGap = true) (a_Gap_init : PySem.W.findIn K (.ref CGap) "__init__" = some (some (.ref f_Gap_init))) (fn_Gap_init : PySem.W.isFn K (.ref f_Gap_init) = true) (kc_Gap_init : PySem.W.keepIn K (.ref CGap) = true) (l_Gap_init : K.lookup f_Gap_init = some ⟨oc_Gap_init, od_Gap_init, .func (PySem.W.fnOf "__init__" "Gap.__init__" (defArgs s_Gap_init) (defBody s_Gap_init) (defScope s_Gap_init) .none kV_Gap_init dc_Gap_init pm_Gap_init an_Gap_init cd_Gap_init ct_Gap_init), sl_Gap_init⟩) (c_Gap_init : PySem.W.codeIn K cd_Gap_init "Gap.__init__" = true) (kp_Gap_init : PySem.W.keepIn K (.ref f_Gap_init) = true) (a_Gap_lets : PySem.W.findIn K (.ref CGap) "lets" = some (some (.ref f_Gap_lets))) (fn_Gap_lets : PySem.W.isFn K (.ref f_Gap_lets) = true) (kp_Gap_lets : PySem.W.keepIn K (.ref f_Gap_lets) = true) (l_Gap_lets : K.lookup f_Gap_lets = some ⟨oc_Gap_lets, od_Gap_lets, .func (PySem.W.fnOf "lets" "Piece.lets" (defArgs s_Piece_lets) (defBody s_Piece_lets) (defScope s_Piece_lets) .none kV_Gap_lets dc_Gap_lets pm_Gap_lets an_Gap_lets cd_Gap_lets ct_Gap_lets), sl_Gap_lets⟩) (c_Gap_lets : PySem.W.codeIn K cd_Gap_lets "Piece.lets" = true) (a_Gap_bent : PySem.W.findIn K (.ref CGap) "bent" = some (some (.ref f_Gap_bent))) (fn_Gap_bent : PySem.W.isFn K (.ref f_Gap_bent) = true) (kp_Gap_bent : PySem.W.keepIn K (.ref f_Gap_bent) = true) (l_Gap_bent : K.lookup f_Gap_bent = some ⟨oc_Gap_bent, od_Gap_bent, .func (PySem.W.fnOf "bent" "Gap.bent" (defArgs s_Gap_bent) (defBody s_Gap_bent) (defScope s_Gap_bent) .none kV_Gap_bent dc_Gap_bent pm_Gap_bent an_Gap_bent cd_Gap_bent ct_Gap_bent), sl_Gap_bent⟩) (c_Gap_bent : PySem.W.codeIn K cd_Gap_bent "Gap.bent" = true) (n_Gap_length : PySem.W.findIn K (.ref CGap) "length" = some none) (pg_Glass : PySem.W.plainGet K CGlass Str.empty = true) (hd_Glass : PySem.W.hasDictIn K CGlass = true) (po_Glass : PySem.W.plainOver K CGlass = true) (sa_Glass : PySem.W.findIn K (.ref CGlass) "__setattr__" = some (some (.builtin "object.__setattr__"))) (mk_Glass_init : PySem.W.makesIn K CGlass = true) (a_Glass_init : PySem.W.findIn K (.ref CGlass) "__init__" = some (some (.ref f_Glass_init))) (fn_Glass_init : PySem.W.isFn K (.ref f_Glass_init) = true) (kc_Glass_init : PySem.W.keepIn K (.ref CGlass) = true) (l_Glass_init : K.lookup f_Glass_init = some ⟨oc_Glass_init, od_Glass_init, .func (PySem.W.fnOf "__init__" "Glass.__init__" (defArgs s_Glass_init) (defBody s_Glass_init) (defScope s_Glass_init) .none kV_Glass_init dc_Glass_init pm_Glass_init an_Glass_init cd_Glass_init ct_Glass_init), sl_Glass_init⟩) (c_Glass_init : PySem.W.codeIn K cd_Glass_init "Glass.__init__" = true) (kp_Glass_init : PySem.W.keepIn K (.ref f_Glass_init) = true) (a_Glass_lets : PySem.W.findIn K (.ref CGlass) "lets" = some (some (.ref f_Glass_lets))) (fn_Glass_lets : PySem.W.isFn K (.ref f_Glass_lets) = true) (kp_Glass_lets : PySem.W.keepIn K (.ref f_Glass_lets) = true) (l_Glass_lets : K.lookup f_Glass_lets = some ⟨oc_Glass_lets, od_Glass_lets, .func (PySem.W.fnOf "lets" "Piece.lets" (defArgs s_Piece_lets) (defBody s_Piece_lets) (defScope s_Piece_lets) .none kV_Glass_lets dc_Glass_lets pm_Glass_lets an_Glass_lets cd_Glass_lets ct_Glass_lets), sl_Glass_lets⟩) (c_Glass_lets : PySem.W.codeIn K cd_Glass_lets "Piece.lets" = true) (a_Glass_bent : PySem.W.findIn K (.ref CGlass) "bent" = some (some (.ref f_Glass_bent))) (fn_Glass_bent : PySem.W.isFn K (.ref f_Glass_bent) = true) (kp_Glass_bent : PySem.W.keepIn K (.ref f_Glass_bent) = true) (l_Glass_bent : K.lookup f_Glass_bent = some ⟨oc_Glass_bent, od_Glass_bent, .func (PySem.W.fnOf "bent" "Glass.bent" (defArgs s_Glass_bent) (defBody s_Glass_bent) (defScope s_Glass_bent) .none kV_Glass_bent dc_Glass_bent pm_Glass_bent an_Glass_bent cd_Glass_bent ct_Glass_bent), sl_Glass_bent⟩) (c_Glass_bent : PySem.W.codeIn K cd_Glass_bent "Glass.bent" = true) (n_Glass_strength : PySem.W.findIn K (.ref CGlass) "strength" = some none) (pg_Stop : PySem.W.plainGet K CStop Str.empty = true) (hd_Stop : PySem.W.hasDictIn K CStop = true) (po_Stop : PySem.W.plainOver K CStop = true) (sa_Stop : PySem.W.findIn K (.ref CStop) "__setattr__" = some (some (.builtin "object.__setattr__"))) (mk_Stop_init : PySem.W.makesIn K CStop = true) (a_Stop_init : PySem.W.findIn K (.ref CStop) "__init__" = some (some (.ref f_Stop_init))) (fn_Stop_init : PySem.W.isFn K (.ref f_Stop_init) = true) (kc_Stop_init : PySem.W.keepIn K (.ref CStop) = true) (l_Stop_init : K.lookup f_Stop_init = some ⟨oc_Stop_init, od_Stop_init, .func (PySem.W.fnOf "__init__" "Stop.__init__" (defArgs s_Stop_init) (defBody s_Stop_init) (defScope s_Stop_init) .none kV_Stop_init dc_Stop_init pm_Stop_init an_Stop_init cd_Stop_init ct_Stop_init), sl_Stop_init⟩) (c_Stop_init : PySem.W.codeIn K cd_Stop_init "Stop.__init__" = true) (kp_Stop_init : PySem.W.keepIn K (.ref f_Stop_init) = true) (a_Stop_lets : PySem.W.findIn K (.ref CStop) "lets" = some (some (.ref f_Stop_lets))) (fn_Stop_lets : PySem.W.isFn K (.ref f_Stop_lets) = true) (kp_Stop_lets : PySem.W.keepIn K (.ref f_Stop_lets) = true) (l_Stop_lets : K.lookup f_Stop_lets = some ⟨oc_Stop_lets, od_Stop_lets, .func (PySem.W.fnOf "lets" "Stop.lets" (defArgs s_Stop_lets) (defBody s_Stop_lets) (defScope s_Stop_lets) .none kV_Stop_lets dc_Stop_lets pm_Stop_lets an_Stop_lets cd_Stop_lets ct_Stop_lets), sl_Stop_lets⟩) (c_Stop_lets : PySem.W.codeIn K cd_Stop_lets "Stop.lets" = true) (a_Stop_bent : PySem.W.findIn K (.ref CStop) "bent" = some (some (.ref f_Stop_bent))) (fn_Stop_bent : PySem.W.isFn K (.ref f_Stop_bent) = true) (kp_Stop_bent : PySem.W.keepIn K (.ref f_Stop_bent) = true) (l_Stop_bent : K.lookup f_Stop_bent = some ⟨oc_Stop_bent, od_Stop_bent, .func (PySem.W.fnOf "bent" "Piece.bent" (defArgs s_Piece_bent) (defBody s_Piece_bent) (defScope s_Piece_bent) .none kV_Stop_bent dc_Stop_bent pm_Stop_bent an_Stop_bent cd_Stop_bent ct_Stop_bent), sl_Stop_bent⟩) (c_Stop_bent : PySem.W.codeIn K cd_Stop_bent "Piece.bent" = true) (n_Stop_low : PySem.W.findIn K (.ref CStop) "low" = some none) (n_Stop_high : PySem.W.findIn K (.ref CStop) "high" = some none) (pg_Reader : PySem.W.plainGet K CReader Str.empty = true) (hd_Reader : PySem.W.hasDictIn K CReader = true) (po_Reader : PySem.W.plainOver K CReader = true) (sa_Reader : PySem.W.findIn K (.ref CReader) "__setattr__" = some (some (.builtin "object.__setattr__"))) (mk_Reader_init : PySem.W.makesIn K CReader = true) (a_Reader_init : PySem.W.findIn K (.ref CReader) "__init__" = some (some (.ref f_Reader_init))) (fn_Reader_init : PySem.W.isFn K (.ref f_Reader_init) = true) (kc_Reader_init : PySem.W.keepIn K (.ref CReader) = true) (l_Reader_init : K.lookup f_Reader_init = some ⟨oc_Reader_init, od_Reader_init, .func (PySem.W.fnOf "__init__" "Reader.__init__" (defArgs s_Reader_init) (defBody s_Reader_init) (defScope s_Reader_init) .none kV_Reader_init dc_Reader_init pm_Reader_init an_Reader_init cd_Reader_init ct_Reader_init), sl_Reader_init⟩) (c_Reader_init : PySem.W.codeIn K cd_Reader_init "Reader.__init__" = true) (kp_Reader_init : PySem.W.keepIn K (.ref f_Reader_init) = true) (a_Reader_is_done : PySem.W.findIn K (.ref CReader) "is_done" = some (some (.ref f_Reader_is_done))) (fn_Reader_is_done : PySem.W.isFn K (.ref f_Reader_is_done) = true) (kp_Reader_is_done : PySem.W.keepIn K (.ref f_Reader_is_done) = true) (l_Reader_is_done : K.lookup f_Reader_is_done = some ⟨oc_Reader_is_done, od_Reader_is_done, .func (PySem.W.fnOf "is_done" "Reader.is_done" (defArgs s_Reader_is_done) (defBody s_Reader_is_done) (defScope s_Reader_is_done) .none kV_Reader_is_done dc_Reader_is_done pm_Reader_is_done an_Reader_is_done cd_Reader_is_done ct_Reader_is_done), sl_Reader_is_done⟩) (c_Reader_is_done : PySem.W.codeIn K cd_Reader_is_done "Reader.is_done" = true) (a_Reader_take : PySem.W.findIn K (.ref CReader) "take" = some (some (.ref f_Reader_take))) (fn_Reader_take : PySem.W.isFn K (.ref f_Reader_take) = true) (kp_Reader_take : PySem.W.keepIn K (.ref f_Reader_take) = true) (l_Reader_take : K.lookup f_Reader_take = some ⟨oc_Reader_take, od_Reader_take, .func (PySem.W.fnOf "take" "Reader.take" (defArgs s_Reader_take) (defBody s_Reader_take) (defScope s_Reader_take) .none kV_Reader_take dc_Reader_take pm_Reader_take an_Reader_take cd_Reader_take ct_Reader_take), sl_Reader_take⟩) (c_Reader_take : PySem.W.codeIn K cd_Reader_take "Reader.take" = true) (a_Reader_take_if : PySem.W.findIn K (.ref CReader) "take_if" = some (some (.ref f_Reader_take_if))) (fn_Reader_take_if : PySem.W.isFn K (.ref f_Reader_take_if) = true) (kp_Reader_take_if : PySem.W.keepIn K (.ref f_Reader_take_if) = true) (l_Reader_take_if : K.lookup f_Reader_take_if = some ⟨oc_Reader_take_if, od_Reader_take_if, .func (PySem.W.fnOf "take_if" "Reader.take_if" (defArgs s_Reader_take_if) (defBody s_Reader_take_if) (defScope s_Reader_take_if) .none kV_Reader_take_if dc_Reader_take_if pm_Reader_take_if an_Reader_take_if cd_Reader_take_if ct_Reader_take_if), sl_Reader_take_if⟩) (c_Reader_take_if : PySem.W.codeIn K cd_Reader_take_if "Reader.take_if" = true) (n_Reader_words : PySem.W.findIn K (.ref CReader) "words" = some none) (n_Reader_place : PySem.W.findIn K (.ref CReader) "place" = some none) (pg_Desk : PySem.W.plainGet K CDesk Str.empty = true) (hd_Desk : PySem.W.hasDictIn K CDesk = true) (po_Desk : PySem.W.plainOver K CDesk = true) (sa_Desk : PySem.W.findIn K (.ref CDesk) "__setattr__" = some (some (.builtin "object.__setattr__"))) (mk_Desk_init : PySem.W.makesIn K CDesk = true) (a_Desk_init : PySem.W.findIn K (.ref CDesk) "__init__" = some (some (.ref f_Desk_init))) (fn_Desk_init : PySem.W.isFn K (.ref f_Desk_init) = true) (kc_Desk_init : PySem.W.keepIn K (.ref CDesk) = true) (l_Desk_init : K.lookup f_Desk_init = some ⟨oc_Desk_init, od_Desk_init, .func (PySem.W.fnOf "__init__" "Desk.__init__" (defArgs s_Desk_init) (defBody s_Desk_init) (defScope s_Desk_init) .none kV_Desk_init dc_Desk_init pm_Desk_init an_Desk_init cd_Desk_init ct_Desk_init), sl_Desk_init⟩) (c_Desk_init : PySem.W.codeIn K cd_Desk_init "Desk.__init__" = true) (kp_Desk_init : PySem.W.keepIn K (.ref f_Desk_init) = true) (a_Desk_say : PySem.W.findIn K (.ref CDesk) "say" = some (some (.ref f_Desk_say))) (fn_Desk_say : PySem.W.isFn K (.ref f_Desk_say) = true) (kp_Desk_say : PySem.W.keepIn K (.ref f_Desk_say) = true) (l_Desk_say : K.lookup f_Desk_say = some ⟨oc_Desk_say, od_Desk_say, .func (PySem.W.fnOf "say" "Desk.say" (defArgs s_Desk_say) (defBody s_Desk_say) (defScope s_Desk_say) .none kV_Desk_say dc_Desk_say pm_Desk_say an_Desk_say cd_Desk_say ct_Desk_say), sl_Desk_say⟩) (c_Desk_say : PySem.W.codeIn K cd_Desk_say "Desk.say" = true) (a_Desk_lay : PySem.W.findIn K (.ref CDesk) "lay" = some (some (.ref f_Desk_lay))) (fn_Desk_lay : PySem.W.isFn K (.ref f_Desk_lay) = true) (kp_Desk_lay : PySem.W.keepIn K (.ref f_Desk_lay) = true) (l_Desk_lay : K.lookup f_Desk_lay = some ⟨oc_Desk_lay, od_Desk_lay, .func (PySem.W.fnOf "lay" "Desk.lay" (defArgs s_Desk_lay) (defBody s_Desk_lay) (defScope s_Desk_lay) .none kV_Desk_lay dc_Desk_lay pm_Desk_lay an_Desk_lay cd_Desk_lay ct_Desk_lay), sl_Desk_lay⟩) (c_Desk_lay : PySem.W.codeIn K cd_Desk_lay "Desk.lay" = true) (a_Desk_bench_by : PySem.W.findIn K (.ref CDesk) "bench_by" = some (some (.ref f_Desk_bench_by))) (fn_Desk_bench_by : PySem.W.isFn K (.ref f_Desk_bench_by) = true) (kp_Desk_bench_by : PySem.W.keepIn K (.ref f_Desk_bench_by) = true) (l_Desk_bench_by : K.lookup f_Desk_bench_by = some ⟨oc_Desk_bench_by, od_Desk_bench_by, .func (PySem.W.fnOf "bench_by" "Desk.bench_by" (defArgs s_Desk_bench_by) (defBody s_Desk_bench_by) (defScope s_Desk_bench_by) .none kV_Desk_bench_by dc_Desk_bench_by pm_Desk_bench_by an_Desk_bench_by cd_Desk_bench_by ct_Desk_bench_by), sl_Desk_bench_by⟩) (c_Desk_bench_by : PySem.W.codeIn K cd_Desk_bench_by "Desk.bench_by" = true) (a_Desk_keep : PySem.W.findIn K (.ref CDesk) "keep" = some (some (.ref f_Desk_keep))) (fn_Desk_keep : PySem.W.isFn K (.ref f_Desk_keep) = true) (kp_Desk_keep : PySem.W.keepIn K (.ref f_Desk_keep) = true) (l_Desk_keep : K.lookup f_Desk_keep = some ⟨oc_Desk_keep, od_Desk_keep, .func (PySem.W.fnOf "keep" "Desk.keep" (defArgs s_Desk_keep) (defBody s_Desk_keep) (defScope s_Desk_keep) .none kV_Desk_keep dc_Desk_keep pm_Desk_keep an_Desk_keep cd_Desk_keep ct_Desk_keep), sl_Desk_keep⟩) (c_Desk_keep : PySem.W.codeIn K cd_Desk_keep "Desk.keep" = true) (n_Desk_benches : PySem.W.findIn K (.ref CDesk) "benches" = some none) (m_NOUGHT : PySem.W.nsIn K mainGlobals "NOUGHT" = some (some (.ref CNOUGHT))) (lk_NOUGHT : K.lookup CNOUGHT = some ⟨.type "tuple", dd_NOUGHT, .seq #[.int 0 tk_NOUGHT_0, .int 1 tk_NOUGHT_1] nn_NOUGHT, sl_NOUGHT⟩) (m_ONE : PySem.W.nsIn K mainGlobals "ONE" = some (some (.ref CONE))) (lk_ONE : K.lookup CONE = some ⟨.type "tuple", dd_ONE, .seq #[.int 1 tk_ONE_0, .int 1 tk_ONE_1] nn_ONE, sl_ONE⟩) (m_LEAVING : PySem.W.nsIn K mainGlobals "LEAVING" = some (some (.ref CLEAVING))) (lk_LEAVING : K.lookup CLEAVING = some ⟨.type "tuple", dd_LEAVING, .seq #[.ref CONE, .ref CNOUGHT, .ref CNOUGHT, .ref CONE] nn_LEAVING, sl_LEAVING⟩) (m_ROWS : PySem.W.nsIn K mainGlobals "ROWS" = some (some (.ref CROWS))) (lk_ROWS : K.lookup CROWS = some ⟨.type "dict", none, .dict #[⟨h_ROWS_join, .str "join" kt_ROWS_join, .ref CROWS_join⟩, ⟨h_ROWS_turn, .str "turn" kt_ROWS_turn, .ref CROWS_turn⟩, ⟨h_ROWS_show, .str "show" kt_ROWS_show, .ref CROWS_show⟩, ⟨h_ROWS_walk, .str "walk" kt_ROWS_walk, .ref CROWS_walk⟩, ⟨h_ROWS_table, .str "table" kt_ROWS_table, .ref CROWS_table⟩, ⟨h_ROWS_apart, .str "apart" kt_ROWS_apart, .ref CROWS_apart⟩, ⟨h_ROWS_image, .str "image" kt_ROWS_image, .ref CROWS_image⟩, ⟨h_ROWS_field, .str "field" kt_ROWS_field, .ref CROWS_field⟩, ⟨h_ROWS_sharp, .str "sharp" kt_ROWS_sharp, .ref CROWS_sharp⟩, ⟨h_ROWS_rounds, .str "rounds" kt_ROWS_rounds, .ref CROWS_rounds⟩] ep_ROWS, #[]⟩) (hh_ROWS_join : h_ROWS_join = hashP pr "join") (hh_ROWS_turn : h_ROWS_turn = hashP pr "turn") (hh_ROWS_show : h_ROWS_show = hashP pr "show") (hh_ROWS_walk : h_ROWS_walk = hashP pr "walk") (hh_ROWS_table : h_ROWS_table = hashP pr "table") (hh_ROWS_apart : h_ROWS_apart = hashP pr "apart") (hh_ROWS_image : h_ROWS_image = hashP pr "image") (hh_ROWS_field : h_ROWS_field = hashP pr "field") (hh_ROWS_sharp : h_ROWS_sharp = hashP pr "sharp") (hh_ROWS_rounds : h_ROWS_rounds = hashP pr "rounds") (ns_ROWS : (CROWS == sysModules) = false) (lk_ROWS_join : K.lookup CROWS_join = some ⟨.type "tuple", dd_ROWS_join, .seq #[.int 3 tk_ROWS_join_0, .int 0 tk_ROWS_join_1] nn_ROWS_join, sl_ROWS_join⟩) (lk_ROWS_turn : K.lookup CROWS_turn = some ⟨.type "tuple", dd_ROWS_turn, .seq #[.int 2 tk_ROWS_turn_0, .int 0 tk_ROWS_turn_1] nn_ROWS_turn, sl_ROWS_turn⟩) (lk_ROWS_show : K.lookup CROWS_show = some ⟨.type "tuple", dd_ROWS_show, .seq #[.int 1 tk_ROWS_show_0, .int 0 tk_ROWS_show_1] nn_ROWS_show, sl_ROWS_show⟩) (lk_ROWS_walk : K.lookup CROWS_walk = some ⟨.type "tuple", dd_ROWS_walk, .seq #[.int 1 tk_ROWS_walk_0, .int 2 tk_ROWS_walk_1] nn_ROWS_walk, sl_ROWS_walk⟩) (lk_ROWS_table : K.lookup CROWS_table = some ⟨.type "tuple", dd_ROWS_table, .seq #[.int 1 tk_ROWS_table_0, .int 0 tk_ROWS_table_1] nn_ROWS_table, sl_ROWS_table⟩) (lk_ROWS_apart : K.lookup CROWS_apart = some ⟨.type "tuple", dd_ROWS_apart, .seq #[.int 1 tk_ROWS_apart_0, .int 0 tk_ROWS_apart_1] nn_ROWS_apart, sl_ROWS_apart⟩) (lk_ROWS_image : K.lookup CROWS_image = some ⟨.type "tuple", dd_ROWS_image, .seq #[.int 1 tk_ROWS_image_0, .int 1 tk_ROWS_image_1] nn_ROWS_image, sl_ROWS_image⟩) (lk_ROWS_field : K.lookup CROWS_field = some ⟨.type "tuple", dd_ROWS_field, .seq #[.int 1 tk_ROWS_field_0, .int 4 tk_ROWS_field_1] nn_ROWS_field, sl_ROWS_field⟩) (lk_ROWS_sharp : K.lookup CROWS_sharp = some ⟨.type "tuple", dd_ROWS_sharp, .seq #[.int 1 tk_ROWS_sharp_0, .int 5 tk_ROWS_sharp_1] nn_ROWS_sharp, sl_ROWS_sharp⟩) (lk_ROWS_rounds : K.lookup CROWS_rounds = some ⟨.type "tuple", dd_ROWS_rounds, .seq #[.int 1 tk_ROWS_rounds_0, .int 0 tk_ROWS_rounds_1] nn_ROWS_rounds, sl_ROWS_rounds⟩) (m_ANSWERS : PySem.W.nsIn K mainGlobals "ANSWERS" = some (some (.ref CANSWERS))) (f_ANSWERS_show : PySem.W.nsIn K mainGlobals "show_answer" = some (some (.ref CANSWERS_show))) (f_ANSWERS_walk : PySem.W.nsIn K mainGlobals "walk_answer" = some (some (.ref CANSWERS_walk))) (f_ANSWERS_table : PySem.W.nsIn K mainGlobals "table_answer" = some (some (.ref CANSWERS_table))) (f_ANSWERS_apart : PySem.W.nsIn K mainGlobals "apart_answer" = some (some (.ref CANSWERS_apart))) (f_ANSWERS_image : PySem.W.nsIn K mainGlobals "image_answer" = some (some (.ref CANSWERS_image))) (f_ANSWERS_field : PySem.W.nsIn K mainGlobals "field_answer" = some (some (.ref CANSWERS_field))) (f_ANSWERS_sharp : PySem.W.nsIn K mainGlobals "sharp_answer" = some (some (.ref CANSWERS_sharp))) (f_ANSWERS_rounds : PySem.W.nsIn K mainGlobals "rounds_answer" = some (some (.ref CANSWERS_rounds))) (lk_ANSWERS : K.lookup CANSWERS = some ⟨.type "dict", none, .dict #[⟨h_ANSWERS_show, .str "show" kt_ANSWERS_show, .ref CANSWERS_show⟩, ⟨h_ANSWERS_walk, .str "walk" kt_ANSWERS_walk, .ref CANSWERS_walk⟩, ⟨h_ANSWERS_table, .str "table" kt_ANSWERS_table, .ref CANSWERS_table⟩, ⟨h_ANSWERS_apart, .str "apart" kt_ANSWERS_apart, .ref CANSWERS_apart⟩, ⟨h_ANSWERS_image, .str "image" kt_ANSWERS_image, .ref CANSWERS_image⟩, ⟨h_ANSWERS_field, .str "field" kt_ANSWERS_field, .ref CANSWERS_field⟩, ⟨h_ANSWERS_sharp, .str "sharp" kt_ANSWERS_sharp, .ref CANSWERS_sharp⟩, ⟨h_ANSWERS_rounds, .str "rounds" kt_ANSWERS_rounds, .ref CANSWERS_rounds⟩] ep_ANSWERS, #[]⟩) (hh_ANSWERS_show : h_ANSWERS_show = hashP pr "show") (hh_ANSWERS_walk : h_ANSWERS_walk = hashP pr "walk") (hh_ANSWERS_table : h_ANSWERS_table = hashP pr "table") (hh_ANSWERS_apart : h_ANSWERS_apart = hashP pr "apart") (hh_ANSWERS_image : h_ANSWERS_image = hashP pr "image") (hh_ANSWERS_field : h_ANSWERS_field = hashP pr "field") (hh_ANSWERS_sharp : h_ANSWERS_sharp = hashP pr "sharp") (hh_ANSWERS_rounds : h_ANSWERS_rounds = hashP pr "rounds") (ns_ANSWERS : (CANSWERS == sysModules) = false) : Exc K mg ⟨0, CBenchError, CNoNumber, CNoText, CNoTable, CNoBox, CNoRow, CUnknown, CNoBench, CPiece, CGap, CGlass, CStop, CReader, CDesk, CNOUGHT, CONE, CLEAVING, CROWS, CROWS_join, CROWS_turn, CROWS_show, CROWS_walk, CROWS_table, CROWS_apart, CROWS_image, CROWS_field, CROWS_sharp, CROWS_rounds, CANSWERS, CANSWERS_show, CANSWERS_walk, CANSWERS_table, CANSWERS_apart, CANSWERS_image, CANSWERS_field, CANSWERS_sharp, CANSWERS_rounds, tGAP, tGLASS, tSTOP, tMOST_PIECES, tFIGURES, tMOST_FIGURES, tPARTED, tTIMES, tOPENED, tCLOSED, tMOST_TIMES, tMOST_DEEP, tLETTERS, tMOST_LETTERS, tDONE, tNONE, pr⟩ := ⟨trivial, PySem.W.mg_of X G m_BenchError, PySem.W.mg_of X G m_NoNumber, PySem.W.mg_of X G m_NoText, PySem.W.mg_of X G m_NoTable, PySem.W.mg_of X G m_NoBox, PySem.W.mg_of X G m_NoRow, PySem.W.mg_of X G m_Unknown, PySem.W.mg_of X G m_NoBench, PySem.W.mg_of X G m_Piece, PySem.W.mg_of X G m_Gap, PySem.W.mg_of X G m_Glass, PySem.W.mg_of X G m_Stop, PySem.W.mg_of X G m_Reader, PySem.W.mg_of X G m_Desk, PySem.W.mg_of X G m_GAP, PySem.W.mg_of X G m_GLASS, PySem.W.mg_of X G m_STOP, PySem.W.mg_of X G m_MOST_PIECES, PySem.W.mg_of X G m_FIGURES, PySem.W.mg_of X G m_MOST_FIGURES, PySem.W.mg_of X G m_PARTED, PySem.W.mg_of X G m_TIMES, PySem.W.mg_of X G m_OPENED, PySem.W.mg_of X G m_CLOSED, PySem.W.mg_of X G m_MOST_TIMES, PySem.W.mg_of X G m_MOST_DEEP, PySem.W.mg_of X G m_LETTERS, PySem.W.mg_of X G m_MOST_LETTERS, PySem.W.mg_of X G m_DONE, PySem.W.mg_of X G m_NONE, ⟨PySem.W.mg_of X G m_NoText, o_NoText⟩, ⟨PySem.W.mg_of X G m_Unknown, o_Unknown⟩, x_NoText_NoText, x_Unknown_Unknown, ⟨pg_Gap, hd_Gap, po_Gap, sa_Gap⟩, ⟨⟨_, _, fun_mk l_Gap_init c_Gap_init kp_Gap_init, ⟨mk_Gap_init, a_Gap_init, fn_Gap_init, kc_Gap_init⟩⟩, PySem.W.mg_of X G m_Gap⟩, ⟨⟨_, _, fun_mk l_Gap_lets c_Gap_lets kp_Gap_lets, ⟨a_Gap_lets, fn_Gap_lets, kp_Gap_lets⟩⟩, ⟨pg_Gap, hd_Gap, po_Gap, sa_Gap⟩⟩, ⟨⟨_, _, fun_mk l_Gap_bent c_Gap_bent kp_Gap_bent, ⟨a_Gap_bent, fn_Gap_bent, kp_Gap_bent⟩⟩, ⟨pg_Gap, hd_Gap, po_Gap, sa_Gap⟩⟩, n_Gap_length, ⟨pg_Glass, hd_Glass, po_Glass, sa_Glass⟩, ⟨⟨_, _, fun_mk l_Glass_init c_Glass_init kp_Glass_init, ⟨mk_Glass_init, a_Glass_init, fn_Glass_init, kc_Glass_init⟩⟩, PySem.W.mg_of X G m_Glass⟩, ⟨⟨_, _, fun_mk l_Glass_lets c_Glass_lets kp_Glass_lets, ⟨a_Glass_lets, fn_Glass_lets, kp_Glass_lets⟩⟩, ⟨pg_Glass, hd_Glass, po_Glass, sa_Glass⟩⟩, ⟨⟨_, _, fun_mk l_Glass_bent c_Glass_bent kp_Glass_bent, ⟨a_Glass_bent, fn_Glass_bent, kp_Glass_bent⟩⟩, ⟨pg_Glass, hd_Glass, po_Glass, sa_Glass⟩⟩, n_Glass_strength, ⟨pg_Stop, hd_Stop, po_Stop, sa_Stop⟩, ⟨⟨_, _, fun_mk l_Stop_init c_Stop_init kp_Stop_init, ⟨mk_Stop_init, a_Stop_init, fn_Stop_init, kc_Stop_init⟩⟩, PySem.W.mg_of X G m_Stop⟩, ⟨⟨_, _, fun_mk l_Stop_lets c_Stop_lets kp_Stop_lets, ⟨a_Stop_lets, fn_Stop_lets, kp_Stop_lets⟩⟩, ⟨pg_Stop, hd_Stop, po_Stop, sa_Stop⟩⟩, ⟨⟨_, _, fun_mk l_Stop_bent c_Stop_bent kp_Stop_bent, ⟨a_Stop_bent, fn_Stop_bent, kp_Stop_bent⟩⟩, ⟨pg_Stop, hd_Stop, po_Stop, sa_Stop⟩⟩, n_Stop_low, n_Stop_high, ⟨pg_Reader, hd_Reader, po_Reader, sa_Reader⟩, ⟨⟨_, _, fun_mk l_Reader_init c_Reader_init kp_Reader_init, ⟨mk_Reader_init, a_Reader_init, fn_Reader_init, kc_Reader_init⟩⟩, PySem.W.mg_of X G m_Reader⟩, ⟨⟨_, _, fun_mk l_Reader_is_done c_Reader_is_done kp_Reader_is_done, ⟨a_Reader_is_done, fn_Reader_is_done, kp_Reader_is_done⟩⟩, ⟨pg_Reader, hd_Reader, po_Reader, sa_Reader⟩⟩, ⟨⟨_, _, fun_mk l_Reader_take c_Reader_take kp_Reader_take, ⟨a_Reader_take, fn_Reader_take, kp_Reader_take⟩⟩, ⟨pg_Reader, hd_Reader, po_Reader, sa_Reader⟩⟩, ⟨⟨_, _, fun_mk l_Reader_take_if c_Reader_take_if kp_Reader_take_if, ⟨a_Reader_take_if, fn_Reader_take_if, kp_Reader_take_if⟩⟩, ⟨pg_Reader, hd_Reader, po_Reader, sa_Reader⟩⟩, n_Reader_words, n_Reader_place, ⟨pg_Desk, hd_Desk, po_Desk, sa_Desk⟩, ⟨⟨_, _, fun_mk l_Desk_init c_Desk_init kp_Desk_init, ⟨mk_Desk_init, a_Desk_init, fn_Desk_init, kc_Desk_init⟩⟩, PySem.W.mg_of X G m_Desk⟩, ⟨⟨_, _, fun_mk l_Desk_say c_Desk_say kp_Desk_say, ⟨a_Desk_say, fn_Desk_say, kp_Desk_say⟩⟩, ⟨pg_Desk, hd_Desk, po_Desk, sa_Desk⟩⟩, ⟨⟨_, _, fun_mk l_Desk_lay c_Desk_lay kp_Desk_lay, ⟨a_Desk_lay, fn_Desk_lay, kp_Desk_lay⟩⟩, ⟨pg_Desk, hd_Desk, po_Desk, sa_Desk⟩⟩, ⟨⟨_, _, fun_mk l_Desk_bench_by c_Desk_bench_by kp_Desk_bench_by, ⟨a_Desk_bench_by, fn_Desk_bench_by, kp_Desk_bench_by⟩⟩, ⟨pg_Desk, hd_Desk, po_Desk, sa_Desk⟩⟩, ⟨⟨_, _, fun_mk l_Desk_keep c_Desk_keep kp_Desk_keep, ⟨a_Desk_keep, fn_Desk_keep, kp_Desk_keep⟩⟩, ⟨pg_Desk, hd_Desk, po_Desk, sa_Desk⟩⟩, n_Desk_benches, PySem.W.mg_of X G m_NOUGHT, fun H => .inr ⟨_, _, _, lk_NOUGHT, rfl, rfl, by show 2 ≤ sizeLine; decide, (.cons ⟨_, rfl⟩ (.cons ⟨_, rfl⟩ .nil))⟩, PySem.W.mg_of X G m_ONE, fun H => .inr ⟨_, _, _, lk_ONE, rfl, rfl, by show 2 ≤ sizeLine; decide, (.cons ⟨_, rfl⟩ (.cons ⟨_, rfl⟩ .nil))⟩, PySem.W.mg_of X G m_LEAVING, fun H => .inr ⟨_, _, _, lk_LEAVING, rfl, rfl, by show 4 ≤ sizeLine; decide, (.cons rfl (.cons rfl (.cons rfl (.cons rfl .nil))))⟩, PySem.W.mg_of X G m_ROWS, fun P w hw => dkg_mk hw lk_ROWS (.cons hh_ROWS_join rfl rfl (.cons hh_ROWS_turn rfl rfl (.cons hh_ROWS_show rfl rfl (.cons hh_ROWS_walk rfl rfl (.cons hh_ROWS_table rfl rfl (.cons hh_ROWS_apart rfl rfl (.cons hh_ROWS_image rfl rfl (.cons hh_ROWS_field rfl rfl (.cons hh_ROWS_sharp rfl rfl (.cons hh_ROWS_rounds rfl rfl .nil)))))))))) (show List.Nodup [("join" : Str), ("turn" : Str), ("show" : Str), ("walk" : Str), ("table" : Str), ("apart" : Str), ("image" : Str), ("field" : Str), ("sharp" : Str), ("rounds" : Str)] by decide +kernel) ns_ROWS, fun H => .inr ⟨_, _, _, lk_ROWS_join, rfl, rfl, by show 2 ≤ sizeLine; decide, (.cons ⟨_, rfl⟩ (.cons ⟨_, rfl⟩ .nil))⟩, fun H => .inr ⟨_, _, _, lk_ROWS_turn, rfl, rfl, by show 2 ≤ sizeLine; decide, (.cons ⟨_, rfl⟩ (.cons ⟨_, rfl⟩ .nil))⟩, fun H => .inr ⟨_, _, _, lk_ROWS_show, rfl, rfl, by show 2 ≤ sizeLine; decide, (.cons ⟨_, rfl⟩ (.cons ⟨_, rfl⟩ .nil))⟩, fun H => .inr ⟨_, _, _, lk_ROWS_walk, rfl, rfl, by show 2 ≤ sizeLine; decide, (.cons ⟨_, rfl⟩ (.cons ⟨_, rfl⟩ .nil))⟩, fun H => .inr ⟨_, _, _, lk_ROWS_table, rfl, rfl, by show 2 ≤ sizeLine; decide, (.cons ⟨_, rfl⟩ (.cons ⟨_, rfl⟩ .nil))⟩, fun H => .inr ⟨_, _, _, lk_ROWS_apart, rfl, rfl, by show 2 ≤ sizeLine; decide, (.cons ⟨_, rfl⟩ (.cons ⟨_, rfl⟩ .nil))⟩, fun H => .inr ⟨_, _, _, lk_ROWS_image, rfl, rfl, by show 2 ≤ sizeLine; decide, (.cons ⟨_, rfl⟩ (.cons ⟨_, rfl⟩ .nil))⟩, fun H => .inr ⟨_, _, _, lk_ROWS_field, rfl, rfl, by show 2 ≤ sizeLine; decide, (.cons ⟨_, rfl⟩ (.cons ⟨_, rfl⟩ .nil))⟩, fun H => .inr ⟨_, _, _, lk_ROWS_sharp, rfl, rfl, by show 2 ≤ sizeLine; decide, (.cons ⟨_, rfl⟩ (.cons ⟨_, rfl⟩ .nil))⟩, fun H => .inr ⟨_, _, _, lk_ROWS_rounds, rfl, rfl, by show 2 ≤ sizeLine; decide, (.cons ⟨_, rfl⟩ (.cons ⟨_, rfl⟩ .nil))⟩, PySem.W.mg_of X G m_ANSWERS, PySem.W.mg_of X G f_ANSWERS_show, PySem.W.mg_of X G f_ANSWERS_walk, PySem.W.mg_of X G f_ANSWERS_table, PySem.W.mg_of X G f_ANSWERS_apart, PySem.W.mg_of X G f_ANSWERS_image, PySem.W.mg_of X G f_ANSWERS_field, PySem.W.mg_of X G f_ANSWERS_sharp, PySem.W.mg_of X G f_ANSWERS_rounds, fun P w hw => dkg_mk hw lk_ANSWERS (.cons hh_ANSWERS_show rfl rfl (.cons hh_ANSWERS_walk rfl rfl (.cons hh_ANSWERS_table rfl rfl (.cons hh_ANSWERS_apart rfl rfl (.cons hh_ANSWERS_image rfl rfl (.cons hh_ANSWERS_field rfl rfl (.cons hh_ANSWERS_sharp rfl rfl (.cons hh_ANSWERS_rounds rfl rfl .nil)))))))) (show List.Nodup [("show" : Str), ("walk" : Str), ("table" : Str), ("apart" : Str), ("image" : Str), ("field" : Str), ("sharp" : Str), ("rounds" : Str)] by decide +kernel) ns_ANSWERS⟩
section
variable {P : Program} {w : World} {K : PySem.W.Frag} {mg : Str → Option Value} {base : Heap} {ad : Adr} {c : Bool}
theorem c_is_whole (T : Txt K mg ad) : CalB P w K mg base true 1 "is_whole" ["thing"] (spW K) := by
  refine T.t_is_whole.calN sc_is_whole (fun _ _ _ _ _ _ => by1 fun _ => rfl) (fun vs H Q E h => ?_) (fun f cdv A outer s H vs Q E hr h => ?_)
  · obtain ⟨v, d, rfl, _⟩ := h; rfl
  obtain ⟨v, d, rfl, hv, q⟩ := h
  obtain ⟨b, b', hb, hc, e⟩ := isInt_b d
  refine ⟨_, (pss_one (ps_ret (pe_and (pe_callB call_isiD rfl T.isinstance bt_isinstance (pa_name (pv 0) (pa_name (pe_bltn (v := .ty "int") rfl T.int bt_int rfl) pa_nil))) (pe_one (pe_not (pe_callB call_isiD rfl T.isinstance bt_isinstance (pa_name (pv 0) (pa_name (pe_bltn (v := .ty "bool") rfl T.bool bt_bool rfl) pa_nil)))))))), ?_⟩
  refine ⟨_, rfl, _, _, _, b, rfl, hv, hb, _, rfl, ?_⟩
  cases b with
  | false =>
    have e' : isIntD d = false := e.symm
    rw [e'] at q
    exact iteF q
  | true =>
    refine iteT ?_
    refine ⟨_, rfl, _, _, _, b', rfl, hv, hc, _, rfl, ?_⟩
    have e' : (!b') = isIntD d := e
    show Q (.bl (!b')) H
    rw [e']
    exact q
theorem c_common_divisor (T : Txt K mg ad) : CalB P w K mg base true 1 "common_divisor" ["one", "other"] spDiv := by
  refine T.t_common_divisor.calN sc_common_divisor (fun _ _ _ _ _ _ => by2 fun _ _ => rfl) (fun vs H Q E h => ?_) (fun f cdv A outer s H vs Q E hr h => ?_)
  · obtain ⟨a, b, rfl, _⟩ := h; rfl
  obtain ⟨a, b, rfl, q⟩ := h
  refine ⟨_, (pss_cons (ps_set (i := 2) sc_common_divisor.nd rfl (Or.inl rfl) (pe_callB call_abs rfl T.abs bt_abs (pa_name (pv 0) pa_nil))) (pss_cons (ps_set (i := 3) sc_common_divisor.nd rfl (Or.inl rfl) (pe_callB call_abs rfl T.abs bt_abs (pa_name (pv 1) pa_nil))) (pss_cons (ps_while PassesOwn.never (pt_cmpR op_ne (pv 3) pe_int (nomark _)) (pss_cons (ps_set (i := 4) sc_common_divisor.nd rfl (Or.inl rfl) (pe_op op_mod (pv 2) (pv 3))) (pss_cons (ps_set (i := 2) sc_common_divisor.nd rfl (Or.inl rfl) (pv 3)) (pss_one (ps_set (i := 3) sc_common_divisor.nd rfl (Or.inl rfl) (pv 4)))))) (pss_one (ps_ret (pv 2)))))), ?_⟩
  refine ⟨_, rfl, _, rfl, _, rfl, _, rfl, ?_⟩
  have ea := Fr.absE a
  have eb := Fr.absE b
  refine ⟨fun k σ H' => H = H' ∧ ∃ (m : Nat) (r : Option V), σ = [some (.int a), some (.int b), some (.int m), some (.int k), r] ∧ Nat.gcd m k = Nat.gcd a.natAbs b.natAbs, ⟨b.natAbs, rfl, a.natAbs, none, by rw [← ea, ← eb]; rfl, rfl⟩, ?_⟩
  rintro n _ _ ⟨rfl, m, r, rfl, e⟩
  refine ⟨_, rfl, rfl, _, rfl, ?_⟩
  refine ite2 (fun c => ?_) (fun c => ?_)
  · have hn : n ≠ 0 := by
      intro z
      subst z
      simp at c
    have h1 : (m : Int) % (n : Int) = ((m % n : Nat) : Int) := (Int.natCast_emod m n).symm
    refine ⟨fun σ' H' => H = H' ∧ σ' = [some (.int a), some (.int b), some (.int n), some (.int ((m : Int) % (n : Int))), some (.int ((m : Int) % (n : Int)))], ?_, ?_⟩
    · rintro _ _ ⟨rfl, rfl⟩
      rw [h1]
      exact ⟨m % n, Nat.mod_lt _ (by omega), rfl, n, _, rfl, by rw [Fr.gcd_turn, e]⟩
    · exact ⟨_, rfl, _, rfl, _, _, rfl, rfl, (by show (0 : Int) < (n : Int); omega), _, rfl, _, rfl, rfl, rfl⟩
  · have hn : n = 0 := by
      by_cases z : n = 0
      · exact z
      · exfalso
        apply c
        rw [decI]
        simp
        omega
    subst hn
    refine ⟨_, rfl, ?_⟩
    have e2 : (m : Int) = Fr.gcd a b := by
      unfold Fr.gcd
      rw [← e, Nat.gcd_zero_right]
    rw [e2]
    exact q
theorem c_is_ratio (T : Txt K mg ad) : CalB P w K mg base true 2 "is_ratio" ["thing"] (spRatG K) := by
  have C_is_whole := c_is_whole (P := P) (w := w) (base := base) T
  have C_common_divisor := c_common_divisor (P := P) (w := w) (base := base) T
  refine T.t_is_ratio.calN sc_is_ratio (fun _ _ _ _ _ _ => by1 fun _ => rfl) (fun vs H Q E h => ?_) (fun f cdv A outer s H vs Q E hr h => ?_)
  · obtain ⟨_, _, rfl, _⟩ := h; rfl
  obtain ⟨v, q0, rfl, hv, q⟩ := h
  obtain ⟨a, rfl, ha⟩ := hv.fr
  refine ⟨_, (pss_cons (ps_if (PW.pt (pw_or (pt_not (pt_val (pe_callB call_isiD rfl T.isinstance bt_isinstance (pa_name (pv 0) (pa_name (pe_bltn (v := .ty "tuple") rfl T.tuple bt_tuple rfl) pa_nil))))) (pw_or1 (pt_cmpR op_ne (pe_callB call_len_seq rfl T.len bt_len (pa_name (pv 0) pa_nil)) pe_int (nomark _))))) (pss_one (ps_ret pe_bl)) pss_nil) (pss_cons (ps_set (i := 1) sc_is_ratio.nd rfl (Or.inl rfl) (pe_ix ix_tup (pv 0) pe_int (fun _ _ => rfl))) (pss_cons (ps_set (i := 2) sc_is_ratio.nd rfl (Or.inl rfl) (pe_ix ix_tup (pv 0) pe_int (fun _ _ => rfl))) (pss_cons (ps_if (PW.pt (pw_or (pt_not (pt_val (pe_cB C_is_whole (hr.mono (by decide)) pass01 (pa_name (pv 1) pa_nil)))) (pw_or1 (pt_not (pt_val (pe_cB C_is_whole (hr.mono (by decide)) pass01 (pa_name (pv 2) pa_nil))))))) (pss_one (ps_ret pe_bl)) pss_nil) (pss_one (ps_ret (pe_and (pe_cmpR op_ge (pv 2) pe_int (nomark _)) (pe_one (pe_cmpR op_eq (pe_cB C_common_divisor (hr.mono (by decide)) pass01 (pa_name (pv 1) (pa_name (pv 2) pa_nil))) pe_int (nomark _)))))))))), ?_⟩
  refine ⟨_, rfl, _, _, _, _, rfl, hv, isTup_b _, _, rfl, iteF ?_⟩
  refine ⟨_, rfl, a, _, rfl, .inr ha, rfl, _, rfl, iteF ?_⟩
  refine ⟨_, rfl, a, _, _, _, rfl, rfl, ha, rfl, ?_⟩
  refine ⟨_, rfl, a, _, _, _, rfl, rfl, ha, rfl, ?_⟩
  refine ⟨_, rfl, _, _, rfl, .int _, _, rfl, iteF ?_⟩
  refine ⟨_, rfl, _, _, rfl, .int _, _, rfl, iteF ?_⟩
  refine ⟨_, rfl, _, _, rfl, rfl, _, rfl, iteT' (decide_eq_true (denp q0)) ⟨_, rfl, _, rfl, _, _, rfl, rfl, ?_⟩⟩
  show Q (.bl (decide (V.int (Fr.gcd q0.num (q0.den : Int)) = V.int 1))) H
  rw [decI, decide_eq_true (frO_gcd q0)]
  exact q
theorem c_is_less (T : Txt K mg ad) : CalB P w K mg base true 1 "is_less" ["one", "other"] (PR K RLess) := by
  refine T.t_is_less.calN sc_is_less (fun _ _ _ _ _ _ => by2 fun _ _ => rfl) (fun vs H Q E h => ?_) (fun f cdv A outer s H vs Q E hr h => ?_)
  · obtain ⟨_, _, dv, ⟨_, _, rfl, _⟩, _⟩ := h; exact dv.len
  obtain ⟨_, _, dv, ⟨p, q, rfl, sp, sq, rfl⟩, k⟩ := h
  obtain ⟨_, _, rfl, hx, hy⟩ := dv.two
  obtain ⟨a, rfl, ha⟩ := hx.fr
  obtain ⟨b, rfl, hb⟩ := hy.fr
  refine ⟨_, (pss_one (ps_ret (pe_cmpR op_lt (pe_op op_mulW (pe_ix ix_tup (pv 0) pe_int (fun _ _ => rfl)) (pe_ix ix_tup (pv 1) pe_int (fun _ _ => rfl))) (pe_op op_mulW (pe_ix ix_tup (pv 1) pe_int (fun _ _ => rfl)) (pe_ix ix_tup (pv 0) pe_int (fun _ _ => rfl))) (nomark _)))), ?_⟩
  refine ⟨_, rfl, a, _, _, _, rfl, rfl, ha, rfl, _, rfl, b, _, _, _, rfl, rfl, hb, rfl, _, _, rfl, rfl, mulW sp.n sq.dn, ?_⟩
  refine ⟨_, rfl, b, _, _, _, rfl, rfl, hb, rfl, _, rfl, a, _, _, _, rfl, rfl, ha, rfl, _, _, rfl, rfl, mulW sq.n sp.dn, _, _, rfl, rfl, ?_⟩
  have e : decide (p.num * (q.den : Int) < q.num * (p.den : Int)) = decide (p < q) := decide_eq_decide.mpr (Fr.lt_rat p q)
  show Q (.bl (decide (p.num * (q.den : Int) < q.num * (p.den : Int)))) H
  rw [e]
  exact k _ _ (Same.refl _) (.bl _)
end
end K72
namespace K72
open PySem L2 Lib Fr Op
seal PE PT PW PA PS PSs PG PGs PI PO PIfs
section
variable {P : Program} {w : World} {K : PySem.W.Frag} {mg : Str → Option Value} {base : Heap} {ad : Adr} {c : Bool}
theorem c_is_piece (T : Txt K mg ad) : CalB P w K mg base true 3 "is_piece" ["thing"] (spPieceG K) := by
  have C_is_ratio := c_is_ratio (P := P) (w := w) (base := base) T
  have C_is_less := c_is_less (P := P) (w := w) (base := base) T
  refine T.t_is_piece.calN sc_is_piece (fun _ _ _ _ _ _ => by1 fun _ => rfl) (fun vs H Q E h => ?_) (fun f cdv A outer s H vs Q E hr h => ?_)
  · obtain ⟨_, _, _, rfl, _⟩ := h; rfl
  obtain ⟨v, pc, m, rfl, hv, ok, pb, hm, q⟩ := h
  obtain ⟨z, es, ee, sh⟩ := pc_shape ok pb
  rw [ee] at hv
  obtain ⟨a, xs, rfl, ha, hds⟩ := hv.tup_of
  obtain ⟨x0, xr, rfl, h0, hr'⟩ := hds.cons_of
  obtain rfl := h0.str_of
  have hl := hr'.len
  rw [List.length_map] at hl
  have hl2 := sh.len
  obtain ⟨tR, hR, kR⟩ : ∃ t, PSs (cxB true P w K mg base ["thing"] "is_piece" (defScope s_is_piece) f cdv A outer s H E).nox ((defBody s_is_piece).drop 2) t ∧ ∀ (D : Ends) (H2 : Hp), Same H H2 → (∀ H', Same H H' → D.rt (.bl true) H') → t D [some (.ref a)] H2 := by
    refine ⟨_, (pss_cons (ps_if (pt_cmpR op_eq (pe_ix ix_tup (pv 0) pe_int (fun _ _ => rfl)) (pe_glob (v := .str "stop") rfl T.ex.m_STOP ⟨_, rfl⟩) (nomark _)) (pss_one (ps_ret (pe_and (pe_cmpR op_eq (pe_callB call_len_seq rfl T.len bt_len (pa_name (pv 0) pa_nil)) pe_int (nomark _)) (pe_one (pe_not (pe_cB C_is_less (hr.mono (by decide)) pass01 (pa_sub (pe_ix ix_tup (pv 0) pe_int (fun _ _ => rfl)) (pa_sub (pe_ix ix_tup (pv 0) pe_int (fun _ _ => rfl)) pa_nil)))))))) pss_nil) (pss_one (ps_ret (pe_and (pe_cmpR op_in_seq (pe_ix ix_tup (pv 0) pe_int (fun _ _ => rfl)) (pe_tup (pa_name (pe_glob (v := .str "gap") rfl T.ex.m_GAP ⟨_, rfl⟩) (pa_name (pe_glob (v := .str "glass") rfl T.ex.m_GLASS ⟨_, rfl⟩) pa_nil))) (by rfl)) (pe_one (pe_cmpR op_eq (pe_callB call_len_seq rfl T.len bt_len (pa_name (pv 0) pa_nil)) pe_int (nomark _))))))), ?_⟩
    intro D H2 t2 q
    refine ⟨_, rfl, a, _, _, _, rfl, rfl, ha.keep t2, atI0, rfl, _, rfl, ?_⟩
    rw [decS]
    cases sh with
    | stop nlt blo bhi =>
      obtain ⟨x1, x2, rfl, h1, h2⟩ := hr'.two
      refine iteT' (by decide) ?_
      refine ⟨_, rfl, a, _, rfl, .inr (ha.keep t2), rfl, _, rfl, iteT ?_⟩
      refine ⟨_, rfl, a, _, _, _, rfl, rfl, ha.keep t2, rfl, _, rfl, a, _, _, _, rfl, rfl, ha.keep t2, rfl, ?_⟩
      refine ⟨_, _, .cons (h2.keep t2) (.cons (h1.keep t2) .nil), ⟨_, _, rfl, bhi.sm hm, blo.sm hm, rfl⟩, fun v H3 s3 hv => ?_⟩
      obtain rfl := hv.bl_of
      refine ⟨_, rfl, ?_⟩
      rw [decide_eq_false nlt]
      exact q _ (t2.trans s3)
    | one e1 e2 =>
      refine iteF' e1 ?_
      refine ⟨_, rfl, a, _, _, _, rfl, rfl, ha.keep t2, atI0, (by show 2 ≤ sizeLine; decide), fun p3 hp3 => ?_⟩
      have t3 := t2.trans (same_new hp3 (.tup [.str "gap", .str "glass"]))
      refine ⟨p3, _, rfl, .inr (SqT.of upd_same), rfl, rfl, _, rfl, iteT' ((in_words z).trans e2) ?_⟩
      refine ⟨_, rfl, a, _, rfl, .inr (ha.keep t3), rfl, ?_⟩
      have el2 : xr.length = 1 := hl
      show D.rt (.bl (decide (V.int ((xr.length + 1 : Nat) : Int) = V.int 2))) _
      rw [el2]
      exact q _ t3
  refine ⟨_, (pss_cons (ps_if (PW.pt (pw_or (pt_not (pt_val (pe_callB call_isiD rfl T.isinstance bt_isinstance (pa_name (pv 0) (pa_name (pe_bltn (v := .ty "tuple") rfl T.tuple bt_tuple rfl) pa_nil))))) (pw_or (pt_cmpR op_lt (pe_callB call_len_seq rfl T.len bt_len (pa_name (pv 0) pa_nil)) pe_int (nomark _)) (pw_or1 (pt_not (pt_val (pe_callB call_isiD rfl T.isinstance bt_isinstance (pa_sub (pe_ix ix_tup (pv 0) pe_int (fun _ _ => rfl)) (pa_name (pe_bltn (v := .ty "str") rfl T.str bt_str rfl) pa_nil))))))))) (pss_one (ps_ret pe_bl)) pss_nil) (pss_cons (ps_if (pt_not (pt_val (pe_callB (call_all rfl) rfl T.all bt_all (pa_cons (pe_comp ["part"] [none] rfl (pi_tup (pe_slice sl_tup (pv 0) (po_some pe_int) po_none)) (fun _ _ _ _ _ => (pg_name (i := 0) (show List.Nodup [("part" : Str)] by decide) rfl (by first | exact Or.inl rfl | exact Or.inr rfl))) (fun _ _ _ _ _ => pifs_nil) (fun _ _ _ _ _ => (pe_cB C_is_ratio (hr.mono (by decide)) pass01 (pa_name (pv 0) pa_nil))) (cap_nil (by decide) (by decide)) (by decide) rfl (by decide) rfl (nocap rfl)) pa_nil)))) (pss_one (ps_ret pe_bl)) pss_nil) hR)), ?_⟩
  refine ⟨_, rfl, _, _, _, _, rfl, hv, isTup_b _, _, rfl, iteF ?_⟩
  refine ⟨_, rfl, a, _, rfl, .inr ha, _, _, rfl, rfl, _, rfl, iteF' (decide_eq_false (by simp only [List.length_cons]; omega)) ?_⟩
  refine ⟨_, rfl, a, _, _, _, rfl, rfl, ha, atI0, _, _, _, _, rfl, h0, isStr_b _, _, rfl, iteF ?_⟩
  refine ⟨_, rfl, _, rfl, a, _, rfl, ha, (fun e => by rw [sIx1] at e; simp only [List.length_cons] at e; omega), fun p hp => ⟨p, rfl, ⟨_, SqT.of upd_same⟩, ?_⟩⟩
  rw [cut1]
  have u1 := same_new hp (.tup ((V.str z :: xr).drop 1))
  have hparts := hr'.keep u1
  have hp' : upd H p (.tup ((V.str z :: xr).drop 1)) p = some (.tup xr) := upd_same
  generalize upd H p (.tup ((V.str z :: xr).drop 1)) = H1 at u1 hparts hp' ⊢
  refine comp_tup0 (K := K) (a := p) (xs := xr) (fun i σ ys H' => ∃ c0, σ = [c0] ∧ ys = List.replicate i (V.bl true) ∧ Same H1 H') ⟨_, rfl, rfl, Same.refl _⟩ ?_ ?_ ?_
  · rintro i σ ys H' hi ⟨c0, rfl, rfl, s'⟩
    refine ⟨?_, SqT.of (s' _ _ hp')⟩
    have z2 := small1000 (n := 1000) (by decide)
    rw [List.length_replicate]
    omega
  · rintro i x σ ys H' hi ⟨c0, rfl, rfl, s'⟩
    obtain ⟨dx, hdx, hx⟩ := hparts.get hi
    obtain ⟨q0, rfl⟩ := get_fr hdx
    exact ⟨_, rfl, _, q0, rfl, hx.keep s', nx (lt_of_get hi) ⟨_, rfl, List.replicate_succ'.symm, s'⟩⟩
  · rintro σ ys H' p2 ⟨c0, rfl, rfl, s'⟩ hp2
    have u2 := same_new hp2 (.lst (List.replicate xr.length (V.bl true)))
    refine ⟨p2, List.replicate xr.length true, rfl, SqL.of (by rw [rep_map]; exact upd_same), _, rfl, ?_⟩
    rw [all_rep]
    exact iteF (kR _ _ (u1.trans (s'.trans u2)) q)
theorem c_look_at (T : Txt K mg ad) : CalB P w K mg base true 4 "look_at" ["bench"] (spLook K) := by
  have C_is_piece := c_is_piece (P := P) (w := w) (base := base) T
  refine T.t_look_at.calN sc_look_at (fun _ _ _ _ _ _ => by1 fun _ => rfl) (fun vs H Q E h => ?_) (fun f cdv A outer s H vs Q E hr h => ?_)
  · obtain ⟨_, _, _, rfl, _⟩ := h; rfl
  obtain ⟨v, ps, m, rfl, hv, g, hm, q⟩ := h
  obtain ⟨a, xs, rfl, ha, hxs⟩ := DV.lst_of hv
  have hl : xs.length = ps.length := by have := hxs.len; rw [List.length_map] at this; exact this
  have gl := g.len
  refine ⟨_, (pss_cons (ps_if (PW.pt (pw_or (pt_not (pt_val (pe_callB call_isiD rfl T.isinstance bt_isinstance (pa_name (pv 0) (pa_name (pe_bltn (v := .ty "list") rfl T.list bt_list rfl) pa_nil))))) (pw_or1 (pt_cmpR op_gt (pe_callB call_len_seq rfl T.len bt_len (pa_name (pv 0) pa_nil)) (pe_glob (v := .int 60) rfl T.ex.m_MOST_PIECES ⟨_, rfl⟩) (nomark _))))) (pss_one ps_never) pss_nil) (pss_one (ps_for PassesOwn.never rfl (pi_enum rfl T.enumerate (pa_name (pv 0) pa_nil)) (pg_tup (n := 2) rfl (pgs_cons (pg_name (i := 1) sc_look_at.nd rfl (by first | exact Or.inl rfl | exact Or.inr rfl)) (pgs_cons (pg_name (i := 2) sc_look_at.nd rfl (by first | exact Or.inl rfl | exact Or.inr rfl)) pgs_nil))) (pss_one (ps_if (pt_not (pt_val (pe_cB C_is_piece (hr.mono (by decide)) pass01 (pa_name (pv 2) pa_nil)))) (pss_one ps_never) pss_nil))))), ?_⟩
  refine ⟨_, rfl, _, _, _, _, rfl, hv, isLst_b _, _, rfl, ?_⟩
  refine iteF ?_
  refine ⟨_, rfl, a, _, rfl, .inl ha, _, _, rfl, rfl, _, rfl, iteF' (decide_eq_false (by omega)) ?_⟩
  refine ⟨_, rfl, a, rfl, ⟨_, ha⟩, ?_⟩
  refine for_enum (K := K) (a := a) (xs := xs) (fun i σ H' => ∃ c1 c2, σ = [some (.ref a), c1, c2] ∧ Same H H') ⟨_, _, rfl, Same.refl _⟩ ?_ ?_ ?_
  · rintro i σ H' hi ⟨c1, c2, rfl, s1⟩
    exact ha.keep s1
  · rintro i x σ H' p hi ⟨c1, c2, rfl, s1⟩ hp
    obtain ⟨d, hd, hx⟩ := hxs.get hi
    obtain ⟨pc, hpc, rfl⟩ := get_map_pc hd
    have hmem := List.mem_of_getElem? hpc
    have s2 := s1.trans (same_new hp (.tup [.int i, x]))
    refine ⟨p, _, rfl, SqT.of upd_same, rfl, _, _, rfl, _, _, rfl, rfl, ?_⟩
    exact ⟨_, rfl, _, _, _, rfl, hx.keep s2, g.ok _ hmem, g.bd _ hmem, hm, fun H3 s3 => ⟨_, rfl, iteF ⟨_, _, rfl, s2.trans s3⟩⟩⟩
  · rintro σ H' ⟨c1, c2, rfl, s1⟩
    exact q _ s1
end
end K72
namespace K72
open PySem L2 Lib Fr Op Tx PySem.NumText
seal PE PT PW PA PS PSs PG PGs PI PO PIfs PJ
section
variable {P : Program} {w : World} {K : PySem.W.Frag} {mg : PySem.Str → Option Value} {base : Heap} {ad : Adr} {c : Bool}
theorem g_show_ratio (T : Txt K mg ad) : CalB P w K mg base true 1 "show_ratio" ["one"] (spShowD K) := by
  refine T.t_show_ratio.calN sc_show_ratio (fun _ _ _ _ _ _ => by1 fun _ => rfl) (fun vs H Q E h => ?_) (fun f cdv A outer s H vs Q E hr h => ?_)
  · obtain ⟨_, _, rfl, _⟩ := h; rfl
  obtain ⟨v, p, rfl, hv, sp, q⟩ := h
  have hn := log_15 sp.n
  have hd := log_15 sp.d
  obtain ⟨a, y1, y2, rfl, h, e1, e2⟩ := DV.t2 (show DV K H v (.tuple [.int p.num, .int (p.den : Int)]) from hv)
  obtain rfl := DV.int_of e1
  obtain rfl := DV.int_of e2
  refine ⟨_, (pss_cons (ps_set (i := 1) sc_show_ratio.nd rfl (Or.inl rfl) (pe_ix ix_tup (pv 0) pe_int (fun _ _ => rfl))) (pss_cons (ps_set (i := 2) sc_show_ratio.nd rfl (Or.inl rfl) (pe_ix ix_tup (pv 0) pe_int (fun _ _ => rfl))) (pss_cons (ps_if (pt_cmpR op_eq (pv 2) pe_int (nomark _)) (pss_one (ps_ret (pe_callTy call_str_int rfl T.str bt_str (pa_name (pv 1) pa_nil)))) pss_nil) (pss_one (ps_ret (pe_joined (pj_fmt (pv 1) (pj_str (pj_fmt (pv 2) pj_nil))))))))), ?_⟩
  refine ⟨_, rfl, a, _, _, _, rfl, rfl, h, rfl, ?_⟩
  refine ⟨_, rfl, a, _, _, _, rfl, rfl, h, rfl, ?_⟩
  refine ⟨_, rfl, rfl, _, rfl, ?_⟩
  have e1 : ∀ x : PySem.Str, cl x = sh p → x = shS p := fun x hx => ext (hx.trans (cl_shS p).symm)
  refine ite2 (fun c1 => ?_) (fun c1 => ?_)
  · have d1 : p.den = 1 := by
      have z : decide (V.int (p.den : Int) = V.int 1) = true := c1
      rw [decI] at z
      have := of_decide_eq_true z
      omega
    refine ⟨_, rfl, _, rfl, hn, ?_⟩
    have e2 : PySem.Str.ofString (toString p.num) = shS p := e1 _ (by rw [cl_num]; unfold sh; rw [if_pos d1, List.append_nil])
    show Q (.str (PySem.Str.ofString (toString p.num))) H
    rw [e2]
    exact q
  · have d1 : ¬ p.den = 1 := by
      intro e
      apply c1
      show decide (V.int (p.den : Int) = V.int 1) = true
      rw [decI, e]
      rfl
    have nl : ((p.den : Int)).natAbs.log2 < 1920 := by rw [Int.natAbs_natCast]; exact hd
    have z1 := cl_num_len hn
    have z2 := cl_num_len nl
    have z0 : PySem.Str.empty.length = 0 := rfl
    have zs : (PySem.Str.ofString "/").length = 1 := rfl
    refine ⟨_, rfl, _, .inl ⟨_, rfl, hn, rfl⟩, size2 (by rw [app_len]; omega), size2 (by rw [app_len, app_len]; omega), _, rfl, _, .inl ⟨_, rfl, nl, rfl⟩, size2 (by rw [app_len, app_len, app_len]; omega), size2 (by rw [app_len, app_len, app_len]; omega), ?_⟩
    have e2 := e1 _ (show cl ((PySem.Str.empty ++ PySem.Str.ofString (toString p.num)) ++ (PySem.Str.ofString "/") ++ PySem.Str.ofString (toString ((p.den : Nat) : Int))) = sh p by
      rw [txt_frac, cl, List.toList_toArray]
      unfold sh
      rw [if_neg d1])
    show Q (.str ((PySem.Str.empty ++ PySem.Str.ofString (toString p.num)) ++ (PySem.Str.ofString "/") ++ PySem.Str.ofString (toString ((p.den : Nat) : Int)))) H
    rw [e2]
    exact q
theorem g_read_part_figures (T : Txt K mg ad) : CalB P w K mg base true 1 "read_part_figures" ["text"] spDigits := by
  refine T.t_read_part_figures.calN sc_read_part_figures (fun _ _ _ _ _ _ => by1 fun _ => rfl) (fun vs H Q E h => ?_) (fun f cdv A outer s H vs Q E hr h => ?_)
  · obtain ⟨_, _, rfl, _⟩ := h; rfl
  obtain ⟨x, m, rfl, hx, hl, q⟩ := h
  have xl : x.length = (dg m).length := by rw [← cl_len, hx]
  have xp := dg_pos m
  have hz : x.length ≤ sizeLine := Nat.le_of_lt (small1000 (by omega))
  refine ⟨_, (pss_cons (ps_if (PW.pt (pw_or (pt_not (pt_chain op_le op_le pe_int (pe_callB call_len_str rfl T.len bt_len (pa_name (pv 0) pa_nil)) (pe_glob (v := .int 15) rfl T.ex.m_MOST_FIGURES ⟨_, rfl⟩))) (pw_or1 (pt_not (pt_val (pe_callB (call_all rfl) rfl T.all bt_all (pa_cons (pe_compIn rfl (pv 0) T.ex.m_FIGURES (by decide) (by decide) rfl (by decide) rfl rfl rfl rfl) pa_nil))))))) (pss_one ps_never) pss_nil) (pss_one (ps_ret (pe_callTy call_int_text rfl T.int bt_int (pa_name (pv 0) pa_nil))))), ?_⟩
  refine ⟨_, rfl, x, rfl, hz, _, _, rfl, rfl, _, rfl, iteT' (decide_eq_true (by omega)) ⟨_, _, rfl, rfl, _, rfl, iteF' (by rw [decide_eq_true (by omega)]; rfl) ?_⟩⟩
  refine ⟨_, rfl, x, rfl, hz, fun p hp => ?_⟩
  refine ⟨p, (cl x).map fun c => decide (48 ≤ c ∧ c ≤ 57), rfl, SqL.of (by rw [all_fig]; exact upd_same), _, rfl, ?_⟩
  have ad' : AllDigits (cl x) := by rw [hx]; exact dg_digits m
  rw [(all_iff (cl x)).mpr ad']
  refine iteF ⟨_, rfl, x, (m : Int), rfl, by omega, ?_, q _ (same_new hp _)⟩
  have e := intText_digits (x := x) ad' (fun e => by have := cl_len x; rw [cl, e] at this; simp at this; omega) (by omega)
  rw [e]
  show some ((digitsVal (cl x) : Nat) : Int) = some (m : Int)
  rw [hx, dg_val]
theorem g_read_ratio (T : Txt K mg ad) : CalB P w K mg base true 3 "read_ratio" ["text"] (spReadG K) := by
  have C_is_ratio := c_is_ratio (P := P) (w := w) (base := base) T
  have C_show_ratio := g_show_ratio (P := P) (w := w) (base := base) T
  have C_read_part_figures := g_read_part_figures (P := P) (w := w) (base := base) T
  refine T.t_read_ratio.calN sc_read_ratio (fun _ _ _ _ _ _ => by1 fun _ => rfl) (fun vs H Q E h => ?_) (fun f cdv A outer s H vs Q E hr h => ?_)
  · obtain ⟨_, rfl, _⟩ := h; rfl
  obtain ⟨q, rfl, sq, k⟩ := h
  have hl := sh_len q sq
  have ex : cl (shS q) = sh q := cl_shS q
  have xl : (shS q).length ≤ 40 := by rw [← cl_len, ex]; exact hl
  have n1 := (dg_len (m := q.num.natAbs) (k := 15) (by decide)).mpr sq.n
  have n2 := (dg_len (m := q.den) (k := 15) (by decide)).mpr sq.d
  have hz : (shS q).length + 2 ≤ sizeLine := Nat.le_of_lt (small1000 (by omega))
  obtain ⟨tR, hR, kR⟩ : ∃ t, PSs (cxB true P w K mg base ["text", "is_below", "parts", "top", "bottom", "one"] "read_ratio" (defScope s_read_ratio) f cdv A outer s H E).nox ((defBody s_read_ratio).drop 3) t ∧ ∀ (p : Addr) (ps : List PySem.Str) (H1 : Hp) (D : Ends), H1 p = some (.lst (ps.map V.str)) → ps.map cl = cut 47 (bd q) → (∀ v H', Same H1 H' → DV K H' v (frD q) → D.rt v H') →
      t D [some (.str (shS q)), some (.bl (decide (q.num < 0))), some (.ref p), none, none, none] H1 := by
    refine ⟨_, (pss_cons (ps_if (pt_cmpR op_gt (pe_callB call_len_seq rfl T.len bt_len (pa_name (pv 2) pa_nil)) pe_int (nomark _)) (pss_one ps_never) pss_nil) (pss_cons (ps_set (i := 3) sc_read_ratio.nd rfl (Or.inl rfl) (pe_cB C_read_part_figures (hr.mono (by decide)) pass01 (pa_sub (pe_ix ix_list (pv 2) pe_int (fun _ _ => rfl)) pa_nil))) (pss_cons (ps_set (i := 4) sc_read_ratio.nd rfl (Or.inl rfl) (pe_ifExp (pt_cmpR op_eq (pe_callB call_len_seq rfl T.len bt_len (pa_name (pv 2) pa_nil)) pe_int (nomark _)) (pe_cB C_read_part_figures (hr.mono (by decide)) pass01 (pa_sub (pe_ix ix_list (pv 2) pe_int (fun _ _ => rfl)) pa_nil)) pe_int)) (pss_cons (ps_set (i := 5) sc_read_ratio.nd rfl (Or.inl rfl) (pe_tup (pa_if (pe_ifExp (pt_val (pv 1)) (pe_op op_sub pe_int (pv 3)) (pv 3)) (pa_name (pv 4) pa_nil)))) (pss_cons (ps_if (PW.pt (pw_or (pt_not (pt_val (pe_cB C_is_ratio (hr.mono (by decide)) pass01 (pa_name (pv 5) pa_nil)))) (pw_or1 (pt_cmpR op_ne (pe_cB C_show_ratio (hr.mono (by decide)) pass01 (pa_name (pv 5) pa_nil)) (pv 0) (nomark _))))) (pss_one ps_never) pss_nil) (pss_one (ps_ret (pv 5)))))))), ?_⟩
    intro p ps H1 D hp hps k
    rw [cut_bd] at hps
    have num : (if q.num < 0 then (0 : Int) - ((q.num.natAbs : Nat) : Int) else ((q.num.natAbs : Nat) : Int)) = q.num := by split <;> omega
    -- from the tuple on
    have fin : ∀ (H3 : Hp) (r : Addr), H3 r = none → ∀ v : Int, v = q.num → Same H1 H3 → DV K (upd H3 r (.tup [.int v, .int ((q.den : Nat) : Int)])) (.ref r) (frD q) ∧ Same H1 (upd H3 r (.tup [.int v, .int ((q.den : Nat) : Int)])) := fun H3 r hr v hv s3 => by
      subst hv
      exact ⟨.tup (SqT.of upd_same) (.cons (.int _) (.cons (.int _) .nil)), s3.trans (same_new hr _)⟩
    by_cases hd : q.den = 1
    · rw [if_pos hd] at hps
      match ps, hps, hp with
      | [z], hps, hp =>
        have ez : cl z = dg q.num.natAbs := (List.cons.inj hps).1
        refine ⟨_, rfl, p, _, rfl, .inl (SqL.of hp), _, _, rfl, rfl, _, rfl, iteF' (by rfl) ?_⟩
        refine ⟨_, rfl, p, _, _, _, rfl, rfl, SqL.of hp, atI0, z, q.num.natAbs, rfl, ez, n1, fun H2 s2 => ?_⟩
        refine ⟨_, rfl, p, _, rfl, .inl (SqL.of (s2 _ _ hp)), rfl, _, rfl, iteF' (by rfl) ?_⟩
        have e1 : ((1 : Nat) : Int) = ((q.den : Nat) : Int) := by rw [hd]
        refine ⟨_, rfl, _, rfl, ?_⟩
        by_cases hn : q.num < 0
        · rw [if_pos hn] at num
          refine iteT' (decide_eq_true hn) ⟨_, rfl, _, _, rfl, rfl, _, rfl, (by show 2 ≤ sizeLine; decide), fun r hr => ?_⟩
          obtain ⟨d4, s4⟩ := fin H2 r hr _ num s2
          rw [← e1] at d4 s4
          exact ⟨_, rfl, .ref r, q, rfl, d4, ⟨_, rfl, iteF ⟨_, rfl, .ref r, q, rfl, d4, sq, _, rfl, rfl, _, rfl, iteF' (by rw [decide_eq_true rfl]; rfl) ⟨_, rfl, k _ _ s4 d4⟩⟩⟩⟩
        · rw [if_neg hn] at num
          refine iteF' (decide_eq_false hn) ⟨_, rfl, _, rfl, (by show 2 ≤ sizeLine; decide), fun r hr => ?_⟩
          obtain ⟨d4, s4⟩ := fin H2 r hr _ num s2
          rw [← e1] at d4 s4
          exact ⟨_, rfl, .ref r, q, rfl, d4, ⟨_, rfl, iteF ⟨_, rfl, .ref r, q, rfl, d4, sq, _, rfl, rfl, _, rfl, iteF' (by rw [decide_eq_true rfl]; rfl) ⟨_, rfl, k _ _ s4 d4⟩⟩⟩⟩
      | [], hps, _ => simp at hps
      | _ :: _ :: _, hps, _ => simp at hps
    · rw [if_neg hd] at hps
      match ps, hps, hp with
      | [z, y], hps, hp =>
        have ez : cl z = dg q.num.natAbs := (List.cons.inj hps).1
        have ey : cl y = dg q.den := (List.cons.inj (List.cons.inj hps).2).1
        refine ⟨_, rfl, p, _, rfl, .inl (SqL.of hp), _, _, rfl, rfl, _, rfl, iteF' (by rfl) ?_⟩
        refine ⟨_, rfl, p, _, _, _, rfl, rfl, SqL.of hp, atI0, z, q.num.natAbs, rfl, ez, n1, fun H2 s2 => ?_⟩
        refine ⟨_, rfl, p, _, rfl, .inl (SqL.of (s2 _ _ hp)), rfl, _, rfl, iteT' (by rfl) ?_⟩
        refine ⟨_, rfl, p, _, _, _, rfl, rfl, SqL.of (s2 _ _ hp), rfl, y, q.den, rfl, ey, n2, fun H3 s3 => ?_⟩
        have s23 := s2.trans s3
        refine ⟨_, rfl, _, rfl, ?_⟩
        by_cases hn : q.num < 0
        · rw [if_pos hn] at num
          refine iteT' (decide_eq_true hn) ⟨_, rfl, _, _, rfl, rfl, _, rfl, (by show 2 ≤ sizeLine; decide), fun r hr => ?_⟩
          obtain ⟨d4, s4⟩ := fin H3 r hr _ num s23
          exact ⟨_, rfl, .ref r, q, rfl, d4, ⟨_, rfl, iteF ⟨_, rfl, .ref r, q, rfl, d4, sq, _, rfl, rfl, _, rfl, iteF' (by rw [decide_eq_true rfl]; rfl) ⟨_, rfl, k _ _ s4 d4⟩⟩⟩⟩
        · rw [if_neg hn] at num
          refine iteF' (decide_eq_false hn) ⟨_, rfl, _, rfl, (by show 2 ≤ sizeLine; decide), fun r hr => ?_⟩
          obtain ⟨d4, s4⟩ := fin H3 r hr _ num s23
          exact ⟨_, rfl, .ref r, q, rfl, d4, ⟨_, rfl, iteF ⟨_, rfl, .ref r, q, rfl, d4, sq, _, rfl, rfl, _, rfl, iteF' (by rw [decide_eq_true rfl]; rfl) ⟨_, rfl, k _ _ s4 d4⟩⟩⟩⟩
      | [], hps, _ => simp at hps
      | [_], hps, _ => simp at hps
      | _ :: _ :: _ :: _, hps, _ => simp at hps
  refine ⟨_, (pss_cons (ps_if (pt_not (pt_val (pe_callB call_isiD rfl T.isinstance bt_isinstance (pa_name (pv 0) (pa_name (pe_bltn (v := .ty "str") rfl T.str bt_str rfl) pa_nil))))) (pss_one ps_never) pss_nil) (pss_cons (ps_set (i := 1) sc_read_ratio.nd rfl (Or.inl rfl) (pe_bm PySem.F.plainAttrs_str PySem.F.slot_str_startswith PySem.F.type_str_startswith mt_startswith (pv 0) (pa_const pe_str pa_nil))) (pss_cons (ps_set (i := 2) sc_read_ratio.nd rfl (Or.inl rfl) (pe_ifExp (pt_val (pv 1)) (pe_bm PySem.F.plainAttrs_str PySem.F.slot_str_split PySem.F.type_str_split mt_split (pe_slice sl_str (pv 0) (po_some pe_int) po_none) (pa_const pe_str pa_nil)) (pe_bm PySem.F.plainAttrs_str PySem.F.slot_str_split PySem.F.type_str_split mt_split (pv 0) (pa_const pe_str pa_nil)))) hR))), ?_⟩
  have st : ∀ x : PySem.Str, Txt.startswith x (PySem.Str.ofString "-") = decide ((cl x).head? = some 45) := fun x => by rw [str_minus, starts_one]
  have sc : ∀ x : PySem.Str, (Txt.split x (PySem.Str.ofString "/")).map cl = cut 47 (cl x) := fun x => by rw [str_stroke, split_cut]
  refine ⟨_, rfl, _, _, _, _, rfl, .str _, isStr_b _, _, rfl, iteF ?_⟩
  refine ⟨_, rfl, rfl, _, _, rfl, rfl, ?_⟩
  have e1 : Txt.startswith (shS q) (PySem.Str.ofString "-") = decide (q.num < 0) := by rw [st, ex, sh_head]
  rw [e1]
  refine ⟨_, rfl, _, rfl, ?_⟩
  have eb := sh_bd q
  by_cases hneg : q.num < 0
  · refine iteT' (decide_eq_true hneg) ?_
    have yl : (Txt.slice (shS q) (some 1) none).length ≤ 40 := Nat.le_trans (Txt.slice_le _ _ _) xl
    refine ⟨_, rfl, _, rfl, shS q, rfl, size2 (by omega), rfl, _, _, rfl, rfl, rfl, size2 (by omega), fun p hp => ?_⟩
    rw [if_pos hneg] at eb
    exact kR p _ _ _ upd_same (by rw [sc, slice_tail, ex, eb]) fun v H' s' hv => k v H' ((same_new hp _).trans s') hv
  · refine iteF' (decide_eq_false hneg) ?_
    refine ⟨_, rfl, rfl, _, _, rfl, rfl, rfl, size2 (by omega), fun p hp => ?_⟩
    rw [if_neg hneg] at eb
    exact kR p _ _ _ upd_same (by rw [sc, ex, eb]) fun v H' s' hv => k v H' ((same_new hp _).trans s') hv
theorem g_read_number_texts (T : Txt K mg ad) : CalB P w K mg base true 4 "read_number_texts" ["word"] (spReadG K) := by
  have C_read_ratio := g_read_ratio (P := P) (w := w) (base := base) T
  refine T.t_read_number_texts.calN sc_read_number_texts (fun _ _ _ _ _ _ => by1 fun _ => rfl) (fun vs H Q E h => ?_) (fun f cdv A outer s H vs Q E hr h => ?_)
  · obtain ⟨_, rfl, _⟩ := h; rfl
  obtain ⟨q, rfl, sq, k⟩ := h
  refine ⟨_, (pss_one (ps_tryRet C_read_ratio (hr.mono (by decide)) (pa_name (pv 0) pa_nil))), ?_⟩
  exact ⟨_, rfl, q, rfl, sq, k⟩
end
end K72
namespace K72
open PySem L2 Lib Fr Op Tx PySem.NumText
seal PE PT PW PA PS PSs PG PGs PI PO PIfs PJ
section
variable {P : Program} {w : World} {K : PySem.W.Frag} {mg : PySem.Str → Option Value} {base : Heap} {ad : Adr} {c : Bool}
theorem k_Reader (T : Txt K mg ad) : MkC P w K mg base 1 "Reader" ad.Reader ["self", "words"] (spRInit ad.Reader) := by
  refine T.ex.i_Reader.mkc sc_Reader_init (fun _ _ _ _ _ _ => by2 fun _ _ => rfl) (fun vs H Q E h => ?_) (fun f cdv A outer s H vs Q E hr h => ?_)
  · obtain ⟨a, dx, wl, rfl, _⟩ := h; rfl
  obtain ⟨a, dx, wl, rfl, ha, q⟩ := h
  refine ⟨_, (pss_cons (ps_fldB (pv 0) (pv 1)) (pss_one (ps_fldB (pv 0) pe_int))), ?_⟩
  refine ⟨_, rfl, _, rfl, a, ad.Reader, dx, [], rfl, ha, T.ex.l_Reader, T.ex.n_Reader_words, by decide, ?_⟩
  refine ⟨_, rfl, a, ad.Reader, dx, [("words", .ref wl)], rfl, upd_same, T.ex.l_Reader, T.ex.n_Reader_place, by show 1 < 1000; decide, ?_⟩
  rw [upd_upd]
  exact q
theorem mc_is_done (T : Txt K mg ad) : MC P w K mg base 1 ad.Reader "is_done" ["self"] (spDone ad.Reader) := by
  refine T.ex.q_Reader_is_done.mc sc_Reader_is_done (fun _ _ _ _ _ _ => by1 fun _ => rfl) (fun vs H Q E h => ?_) (fun f cdv A outer s H vs Q E hr h => ?_)
  · obtain ⟨_, _, _, _, _, rfl, _⟩ := h; rfl
  obtain ⟨a, dx, wl, ws, i, rfl, rd, q⟩ := h
  refine ⟨_, (pss_one (ps_ret (pe_cmpR op_eq (pe_fldB (pv 0)) (pe_callB call_len_seq rfl T.len bt_len (pa_cons (pe_fldB (pv 0)) pa_nil)) (nomark _)))), ?_⟩
  refine ⟨_, rfl, a, _, dx, _, _, rfl, rd.r, T.ex.l_Reader, T.ex.n_Reader_place, rfl, _, rfl, a, _, dx, _, _, rfl, rd.r, T.ex.l_Reader, T.ex.n_Reader_words, rfl, wl, _, rfl, .inl (SqL.of rd.w), rfl, ?_⟩
  rw [decI, List.length_map, show decide (((i : Nat) : Int) = ((ws.length : Nat) : Int)) = decide (i = ws.length) from decide_eq_decide.mpr ⟨fun h => by omega, fun h => by omega⟩]
  exact q
theorem mc_take (T : Txt K mg ad) : MC P w K mg base 2 ad.Reader "take" ["self"] (spTake ad.Reader) := by
  refine T.ex.q_Reader_take.mc sc_Reader_take (fun _ _ _ _ _ _ => by1 fun _ => rfl) (fun vs H Q E h => ?_) (fun f cdv A outer s H vs Q E hr h => ?_)
  · obtain ⟨_, _, _, _, _, _, rfl, _⟩ := h; rfl
  obtain ⟨a, dx, wl, ws, i, z, rfl, rd, hz, q⟩ := h
  have il := lt_of_get hz
  refine ⟨_, (pss_cons (ps_if (pt_val (pe_mB0 (k := 1) (pv 0) (hr.mono (by decide)))) (pss_one ps_never) pss_nil) (pss_cons (ps_fldaug (pv 0) pe_int in_add) (pss_one (ps_ret (pe_ix ix_list (pe_fldB (pv 0)) (pe_op op_sub (pe_fldB (pv 0)) pe_int) (fun _ _ => rfl)))))), ?_⟩
  refine ⟨_, rfl, a, _, dx, _, _, _, rfl, rd.r, rfl, mc_is_done T, a, dx, wl, ws, i, rfl, rd, _, rfl, iteF' (decide_eq_false (by omega)) ?_⟩
  refine ⟨_, rfl, a, _, dx, _, _, rfl, rd.r, T.ex.l_Reader, T.ex.n_Reader_place, rfl, _, _, rfl, rfl, dx, _, rd.r, by show 2 < 1000; decide, ?_⟩
  have rd2 := rd.step (i + 1)
  have e : ((i : Int) + 1) = ((i + 1 : Nat) : Int) := by omega
  rw [e]
  refine ⟨_, rfl, a, _, dx, _, _, rfl, rd2.r, T.ex.l_Reader, T.ex.n_Reader_words, rfl, _, rfl, a, _, dx, _, _, rfl, rd2.r, T.ex.l_Reader, T.ex.n_Reader_place, rfl, _, _, rfl, rfl, wl, _, _, .str z, rfl, rfl, SqL.of rd2.w, ?_, q⟩
  have e2 : ((i + 1 : Nat) : Int) - 1 = (i : Int) := by omega
  rw [e2]
  exact atI_nat (by rw [List.getElem?_map, hz]; rfl)
theorem mc_take_if (T : Txt K mg ad) : MC P w K mg base 2 ad.Reader "take_if" ["self", "word"] (spTakeIf ad.Reader) := by
  refine T.ex.q_Reader_take_if.mc sc_Reader_take_if (fun _ _ _ _ _ _ => by2 fun _ _ => rfl) (fun vs H Q E h => ?_) (fun f cdv A outer s H vs Q E hr h => ?_)
  · obtain ⟨_, _, _, _, _, _, rfl, _⟩ := h; rfl
  obtain ⟨a, dx, wl, ws, i, z, rfl, rd, le, q1, q2⟩ := h
  refine ⟨_, (pss_cons (ps_if (PW.pt (pw_or (pt_val (pe_mB0 (k := 1) (pv 0) (hr.mono (by decide)))) (pw_or1 (pt_cmpR op_ne (pe_ix ix_list (pe_fldB (pv 0)) (pe_fldB (pv 0)) (fun _ _ => rfl)) (pv 1) (nomark _))))) (pss_one (ps_ret pe_bl)) pss_nil) (pss_cons (ps_fldaug (pv 0) pe_int in_add) (pss_one (ps_ret pe_bl)))), ?_⟩
  refine ⟨_, rfl, a, _, dx, _, _, _, rfl, rd.r, rfl, mc_is_done T, a, dx, wl, ws, i, rfl, rd, _, rfl, ?_⟩
  by_cases hi : i = ws.length
  · refine iteT' (decide_eq_true hi) (iteT (q2 fun e => ?_))
    have := lt_of_get e
    omega
  · refine iteF' (decide_eq_false hi) ?_
    have il : i < ws.length := by omega
    have hg : ws[i]? = some ws[i] := List.getElem?_eq_getElem il
    refine ⟨_, rfl, a, _, dx, _, _, rfl, rd.r, T.ex.l_Reader, T.ex.n_Reader_words, rfl, _, rfl, a, _, dx, _, _, rfl, rd.r, T.ex.l_Reader, T.ex.n_Reader_place, rfl, wl, _, _, .str ws[i], rfl, rfl, SqL.of rd.w, atI_nat (by rw [List.getElem?_map, hg]; rfl), _, rfl, rfl, _, rfl, ?_⟩
    by_cases hz : ws[i] = z
    · refine iteF' (by rw [decS, decide_eq_true hz]; rfl) ?_
      refine ⟨_, rfl, a, _, dx, _, _, rfl, rd.r, T.ex.l_Reader, T.ex.n_Reader_place, rfl, _, _, rfl, rfl, dx, _, rd.r, by show 2 < 1000; decide, ?_⟩
      have e : ((i : Int) + 1) = ((i + 1 : Nat) : Int) := by omega
      rw [e]
      exact q1 (by rw [hg, hz])
    · exact iteT' (by rw [decS, decide_eq_false hz]; rfl) (q2 (by rw [hg]; exact fun e => hz (Option.some.inj e)))
theorem g_words_of (T : Txt K mg ad) : CalB P w K mg base true 1 "words_of" ["text"] spWords := by
  refine T.t_words_of.calN sc_words_of (fun _ _ _ _ _ _ => by1 fun _ => rfl) (fun vs H Q E h => ?_) (fun f cdv A outer s H vs Q E hr h => ?_)
  · obtain ⟨_, rfl, _⟩ := h; rfl
  obtain ⟨x, rfl, hx, n4, wl, q⟩ := h
  refine ⟨_, (pss_cons (ps_set (i := 1) sc_words_of.nd rfl (Or.inl rfl) (pe_lst pa_nil)) (pss_cons (ps_for PassesOwn.never rfl (pi_list (pe_bm PySem.F.plainAttrs_str PySem.F.slot_str_split PySem.F.type_str_split mt_split (pv 0) (pa_const pe_str pa_nil))) (pg_name (i := 2) sc_words_of.nd rfl (by first | exact Or.inl rfl | exact Or.inr rfl)) (pss_one (ps_if (pt_val (pe_bm PySem.F.plainAttrs_str PySem.F.slot_str_endswith PySem.F.type_str_endswith mt_endswith (pv 2) (pa_name (pe_glob (v := .str ";") rfl T.ex.m_PARTED ⟨_, rfl⟩) pa_nil))) (pss_cons (ps_expr (pe_bm PySem.F.plainAttrs_list PySem.F.slot_list_append PySem.F.type_list_append mt_append (pv 1) (pa_sub (pe_slice sl_str (pv 2) po_none (po_some (pe_un un_neg pe_int))) pa_nil))) (pss_one (ps_expr (pe_bm PySem.F.plainAttrs_list PySem.F.slot_list_append PySem.F.type_list_append mt_append (pv 1) (pa_name (pe_glob (v := .str ";") rfl T.ex.m_PARTED ⟨_, rfl⟩) pa_nil))))) (pss_one (ps_expr (pe_bm PySem.F.plainAttrs_list PySem.F.slot_list_append PySem.F.type_list_append mt_append (pv 1) (pa_name (pv 2) pa_nil))))))) (pss_one (ps_ret (pv 1))))), ?_⟩
  refine ⟨(by show 0 ≤ sizeLine; decide), fun l hl => ?_⟩
  have u0 := same_new hl (.lst [])
  have m0 : upd H l (.lst []) l = some (.lst []) := upd_same
  generalize upd H l (.lst []) = H0 at u0 m0 ⊢
  refine ⟨_, rfl, rfl, x, _, rfl, rfl, rfl, hx, fun p hp => ⟨p, rfl, ⟨_, SqL.of upd_same⟩, ?_⟩⟩
  have nl : p ≠ l := fun e => by rw [e, m0] at hp; cases hp
  have m1 : upd H0 p (.lst ((Txt.split x (PySem.Str.ofString " ")).map V.str)) p = some (.lst ((Txt.split x (PySem.Str.ofString " ")).map V.str)) := upd_same
  have m2 := same_new hp (.lst ((Txt.split x (PySem.Str.ofString " ")).map V.str)) _ _ m0
  have u1 := u0.trans (same_new hp (.lst ((Txt.split x (PySem.Str.ofString " ")).map V.str)))
  generalize upd H0 p (.lst ((Txt.split x (PySem.Str.ofString " ")).map V.str)) = H1 at m1 m2 u1 ⊢
  generalize eS : Txt.split x (PySem.Str.ofString " ") = S at n4 wl q m1 ⊢
  have ll : ∀ i, (wordsF (S.take i)).length ≤ 40002 := by
    intro i
    have g : ∀ L : List PySem.Str, (wordsF L).length ≤ 2 * L.length := by
      intro L
      induction L with
      | nil => exact Nat.le_refl _
      | cons w L ih =>
        have e : wordsF (w :: L) = wordF w ++ wordsF L := by unfold wordsF; rw [List.map_cons, List.flatten_cons]
        rw [e, List.length_append, List.length_cons]
        have : (wordF w).length ≤ 2 := by unfold wordF; split <;> simp
        omega
    have := g (S.take i)
    rw [List.length_take] at this
    omega
  have step : ∀ (i : Nat) (z : PySem.Str), S[i]? = some z → wordsF (S.take (i + 1)) = wordsF (S.take i) ++ wordF z := by
    intro i z hz
    rw [List.take_add_one, hz]
    unfold wordsF
    rw [List.map_append, List.flatten_append]
    simp
  refine for_list (K := K) (a := p) (xs := S.map V.str) (fun i σ H' => ∃ c2, σ = [some (.str x), some (.ref l), c2] ∧ Same H H' ∧ H' p = some (.lst (S.map V.str)) ∧ H' l = some (.lst ((wordsF (S.take i)).map V.str))) ⟨_, rfl, u1, m1, by rw [List.take_zero]; exact m2⟩ ?_ ?_ ?_
  · rintro i σ H' hi ⟨c2, rfl, s1, hp', hl'⟩
    exact SqL.of hp'
  · rintro i v σ H' hi ⟨c2, rfl, s1, hp', hl'⟩
    rw [List.getElem?_map] at hi
    cases ez : S[i]? with
    | none => rw [ez] at hi; cases hi
    | some z =>
      rw [ez] at hi
      cases hi
      have es := step i z ez
      have li := ll i
      have lz : z.length ≤ sizeLine := Nat.le_trans (wl z (List.mem_of_getElem? ez)) (by decide)
      refine ⟨_, rfl, rfl, z, _, rfl, rfl, _, rfl, ?_⟩
      cases he : Txt.endswith z (PySem.Str.ofString ";") with
      | true =>
        have ew : wordF z = [Txt.slice z none (some (-1)), PySem.Str.ofString ";"] := by unfold wordF; rw [if_pos he]
        refine iteT ⟨_, rfl, .inl ⟨rfl, _, SqL.of hl'⟩, _, rfl, _, rfl, _, rfl, z, rfl, lz, l, _, _, rfl, rfl, hl', small10k (by rw [List.length_map]; omega), ?_⟩
        have hl2 : upd H' l (.lst ((wordsF (S.take i)).map V.str ++ [.str (Txt.slice z none (some (-1)))])) l = some (.lst ((wordsF (S.take i)).map V.str ++ [.str (Txt.slice z none (some (-1)))])) := upd_same
        have hp2 : upd H' l (.lst ((wordsF (S.take i)).map V.str ++ [.str (Txt.slice z none (some (-1)))])) p = some (.lst (S.map V.str)) := by rw [upd_ne nl]; exact hp'
        have s2 := same_but s1 hl (.lst ((wordsF (S.take i)).map V.str ++ [.str (Txt.slice z none (some (-1)))]))
        generalize upd H' l (.lst ((wordsF (S.take i)).map V.str ++ [.str (Txt.slice z none (some (-1)))])) = H2 at hl2 hp2 s2 ⊢
        refine ⟨_, rfl, .inl ⟨rfl, _, SqL.of hl2⟩, l, _, _, rfl, rfl, hl2, small10k (by rw [List.length_append, List.length_map]; simp only [List.length_cons, List.length_nil]; omega), ?_⟩
        refine ⟨_, rfl, same_but s2 hl _, by rw [upd_ne nl]; exact hp2, ?_⟩
        rw [upd_same, es, ew, List.map_append, List.append_assoc]
        rfl
      | false =>
        have ew : wordF z = [z] := by unfold wordF; rw [if_neg (by rw [he]; exact Bool.false_ne_true)]
        refine iteF ⟨_, rfl, .inl ⟨rfl, _, SqL.of hl'⟩, _, rfl, l, _, _, rfl, rfl, hl', small10k (by rw [List.length_map]; omega), ?_⟩
        refine ⟨_, rfl, same_but s1 hl _, by rw [upd_ne nl]; exact hp', ?_⟩
        rw [upd_same, es, ew, List.map_append]
        rfl
  · rintro σ H' ⟨c2, rfl, s1, hp', hl'⟩
    rw [List.length_map, List.take_length] at hl'
    exact ⟨_, rfl, q l H' s1 hl hl'⟩
end
end K72
namespace K72
open PySem L2 Lib Fr Op Tx PySem.NumText
seal PE PT PW PA PS PSs PG PGs PI PO PIfs PJ
section
variable {P : Program} {w : World} {K : PySem.W.Frag} {mg : PySem.Str → Option Value} {base : Heap} {ad : Adr} {c : Bool}
theorem bd_short {q : Rat} (h : Short q) : Bd 50 q := by
  have p1 : (10 : Nat) ^ 15 ≤ 2 ^ 50 := by decide
  exact ⟨Nat.lt_of_lt_of_le h.n p1, Nat.lt_of_lt_of_le h.d p1⟩
theorem str_dg (n : Nat) : PySem.Str.ofString (toString ((n : Nat) : Int)) = dgS n := ext (by rw [cl_num, cl_dgS, if_neg (by omega)]; rfl)
theorem dgS_inj {m n : Nat} (h : dgS m = dgS n) : m = n := dg_inj (by rw [← cl_dgS, ← cl_dgS, h])
theorem g_read_times (T : Txt K mg ad) : CalB P w K mg base true 1 "read_times" ["word"] spTimes := by
  refine T.t_read_times.calN sc_read_times (fun _ _ _ _ _ _ => by1 fun _ => rfl) (fun vs H Q E h => ?_) (fun f cdv A outer s H vs Q E hr h => ?_)
  · obtain ⟨_, rfl, _⟩ := h; rfl
  obtain ⟨n, rfl, n60, q⟩ := h
  refine ⟨_, (pss_cons (ps_for PassesOwn.never rfl (pi_range1 rfl T.range (pa_bin (pe_op op_add (pe_glob (v := .int 60) rfl T.ex.m_MOST_TIMES ⟨_, rfl⟩) pe_int) pa_nil)) (pg_name (i := 1) sc_read_times.nd rfl (by first | exact Or.inl rfl | exact Or.inr rfl)) (pss_one (ps_if (pt_cmpR op_eq (pv 0) (pe_callTy call_str_int rfl T.str bt_str (pa_name (pv 1) pa_nil)) (nomark _)) (pss_one (ps_ret (pv 1))) pss_nil))) (pss_one ps_never)), ?_⟩
  refine ⟨_, _, rfl, rfl, _, rfl, by decide, by decide, ?_⟩
  refine for_range (lo := 0) (n := 61) (fun i σ H' => ∃ c1, σ = [some (.str (dgS n)), c1] ∧ H' = H ∧ i ≤ n) ⟨_, rfl, rfl, Nat.zero_le _⟩ ?_ ?_
  · rintro i σ H' hi ⟨c1, rfl, rfl, hin⟩
    have i0 : (0 + (i : Int)) = (i : Int) := by omega
    rw [i0]
    have l1 : ((i : Int)).natAbs.log2 < 1920 := by
      rw [Int.natAbs_natCast]
      exact Nat.lt_of_le_of_lt (Nat.log2_le_self _) (by omega)
    refine ⟨_, rfl, _, rfl, _, rfl, l1, rfl, _, rfl, ?_⟩
    rw [decS, str_dg]
    by_cases e : n = i
    · subst e
      exact iteT' (decide_eq_true rfl) ⟨_, rfl, q⟩
    · exact iteF' (decide_eq_false fun z => e (dgS_inj z)) ⟨_, rfl, rfl, by omega⟩
  · rintro σ H' ⟨c1, rfl, rfl, hin⟩
    omega
theorem g_read_round (T : Txt K mg ad) {k : Nat} (C_read_parts : CalB P w K mg base true (3 * k + 3) "read_parts" ["reader", "deep"] (spRPsk K ad.Reader k)) : CalB P w K mg base true (3 * k + 4) "read_round" ["reader", "word", "deep"] (spRRk K ad.Reader k) := by
  have C_read_times := g_read_times (P := P) (w := w) (base := base) T
  refine T.t_read_round.calN sc_read_round (fun _ _ _ _ _ _ => by3 fun _ _ _ => rfl) (fun vs H Q E h => ?_) (fun f cdv A outer s H vs Q E hr h => ?_)
  · obtain ⟨_, _, _, _, _, _, _, _, rfl, _⟩ := h; rfl
  obtain ⟨a, dx, wl, ws, i, n, ps, dp, rfl, edp, rd, tk, wp, q⟩ := h
  refine ⟨_, (pss_cons (ps_set (i := 3) sc_read_round.nd rfl (Or.inl rfl) (pe_cB C_read_times (hr.mono (by omega)) pass01 (pa_name (pv 1) pa_nil))) (pss_cons (ps_if (pt_cmpR op_eq (pv 2) (pe_glob (v := .int 4) rfl T.ex.m_MOST_DEEP ⟨_, rfl⟩) (nomark _)) (pss_one ps_never) pss_nil) (pss_cons (ps_if (PW.pt (pw_or (pt_not (pt_val (pe_mB (k := 2) (pv 0) (hr.mono (by omega)) (pa_name (pe_glob (v := .str "times") rfl T.ex.m_TIMES ⟨_, rfl⟩) pa_nil)))) (pw_or1 (pt_not (pt_val (pe_mB (k := 2) (pv 0) (hr.mono (by omega)) (pa_name (pe_glob (v := .str "(") rfl T.ex.m_OPENED ⟨_, rfl⟩) pa_nil))))))) (pss_one ps_never) pss_nil) (pss_cons (ps_set (i := 4) sc_read_round.nd rfl (Or.inl rfl) (pe_cB C_read_parts (hr.mono (by omega)) pass01 (pa_name (pv 0) (pa_bin (pe_op op_add (pv 2) pe_int) pa_nil)))) (pss_cons (ps_if (pt_not (pt_val (pe_mB (k := 2) (pv 0) (hr.mono (by omega)) (pa_name (pe_glob (v := .str ")") rfl T.ex.m_CLOSED ⟨_, rfl⟩) pa_nil)))) (pss_one ps_never) pss_nil) (pss_one (ps_ret (pe_tup (pa_name (pe_glob (v := .str "times") rfl T.ex.m_TIMES ⟨_, rfl⟩) (pa_name (pv 3) (pa_name (pv 4) pa_nil))))))))))), ?_⟩
  have k1 : 1 ≤ k := by
    cases k with
    | zero =>
      cases ps with
      | nil => exact absurd rfl wp.2.1
      | cons e _ => exact nomatch e
    | succ k => omega
  refine ⟨_, rfl, n, rfl, wp.1, ?_⟩
  refine ⟨_, rfl, rfl, _, rfl, iteF' (by rw [decI]; exact decide_eq_false (by omega)) ?_⟩
  have t0 : ws[i]? = some (sOf "times") := tk.head
  have t1 : ws[i + 1]? = some (sOf "(") := tk.tail.head
  have il := lt_of_get t0
  have il1 := lt_of_get t1
  refine ⟨_, rfl, a, _, dx, _, _, _, rfl, rd.r, rfl, mc_take_if T, a, dx, wl, ws, i, sOf "times", rfl, rd, Nat.le_of_lt il, fun _ => ?_, fun e => absurd t0 e⟩
  have rd1 := rd.step (i + 1)
  have sd1 : SD a H (upd H a (RdO ad.Reader dx wl (i + 1))) := sd_updA _
  generalize upd H a (RdO ad.Reader dx wl (i + 1)) = H1 at rd1 sd1 ⊢
  refine ⟨_, rfl, iteF ?_⟩
  refine ⟨_, rfl, a, _, dx, _, _, _, rfl, rd1.r, rfl, mc_take_if T, a, dx, wl, ws, i + 1, sOf "(", rfl, rd1, Nat.le_of_lt il1, fun _ => ?_, fun e => absurd t1 e⟩
  have rd2 := rd1.step (i + 1 + 1)
  have sd2 : SD a H1 (upd H1 a (RdO ad.Reader dx wl (i + 1 + 1))) := sd_updA _
  generalize upd H1 a (RdO ad.Reader dx wl (i + 1 + 1)) = H2 at rd2 sd2 ⊢
  refine ⟨_, rfl, iteF ?_⟩
  have tk2 := tk.tail.tail
  have tk3 := tk2.left
  have t3 : ws[i + 1 + 1 + (jn (toksP k) ps).length]? = some (sOf ")") := tk2.right.head
  have sd02 := sd1.trans sd2
  refine ⟨_, rfl, _, rfl, _, _, rfl, rfl, a, dx, wl, ws, i + 1 + 1, ps, _, rfl, by omega, rd2, tk3, ?_, wp.2.1, wp.2.2.1, wp.2.2.2, fun l xs H3 sd3 nl rd3 hl hxs => ?_⟩
  · rw [t3]; decide +kernel
  have il3 := lt_of_get t3
  refine ⟨_, rfl, a, _, dx, _, _, _, rfl, rd3.r, rfl, mc_take_if T, a, dx, wl, ws, _, sOf ")", rfl, rd3, Nat.le_of_lt il3, fun _ => ?_, fun e => absurd t3 e⟩
  have nla : l ≠ a := fun e => by rw [e, rd3.r] at hl; cases hl
  have rd4 := rd3.step (i + 1 + 1 + (jn (toksP k) ps).length + 1)
  have sd4 : SD a H3 (upd H3 a (RdO ad.Reader dx wl (i + 1 + 1 + (jn (toksP k) ps).length + 1))) := sd_updA _
  have hl4 : upd H3 a (RdO ad.Reader dx wl (i + 1 + 1 + (jn (toksP k) ps).length + 1)) l = some (.lst xs) := by rw [upd_ne nla]; exact hl
  have hT := sd_T rd3.r sd4
  generalize upd H3 a (RdO ad.Reader dx wl (i + 1 + 1 + (jn (toksP k) ps).length + 1)) = H4 at rd4 sd4 hl4 hT ⊢
  have fr : ∀ b, H2 b = none → H b = none := fun b hb => by
    cases e : H b with
    | none => rfl
    | some o =>
      by_cases z : b = a
      · rw [z, rd2.r] at hb; cases hb
      · have := sd02 b o z e; rw [hb] at this; cases this
  refine ⟨_, rfl, iteF ⟨_, rfl, _, rfl, (by show 3 ≤ sizeLine; decide), fun t ht => ?_⟩⟩
  have u := same_new ht (.tup [.str (sOf "times"), .int (n : Int), .ref l])
  have hx4 : PVs K k (FrA H) H4 xs ps := hxs.keep hT fun b ys fb hb => ⟨sd4 b _ (fun z => by rw [z, rd3.r] at hb; cases hb) hb, fr b fb.1⟩
  refine q _ _ ((sd02.trans (sd3.trans sd4)).trans (Lib.SD.ofSame u)) ?_ ?_
  · rw [show i + ((jn (toksP k) ps).length + 3) = i + 1 + 1 + (jn (toksP k) ps).length + 1 by omega]
    exact rd4.keep u
  · have hx5 := hx4.same u
    exact ⟨t, l, xs, rfl, upd_same, fr l nl, u _ _ hl4, hx5.1, hx5.2⟩
end
end K72
namespace K72
open PySem L2 Lib Fr Op Tx PySem.NumText
seal PE PT PW PA PS PSs PG PGs PI PO PIfs PJ
section
variable {P : Program} {w : World} {K : PySem.W.Frag} {mg : PySem.Str → Option Value} {base : Heap} {ad : Adr} {c : Bool}
theorem dgS_no {n c : Nat} {x : PySem.Str} (hc : c ∈ cl x) (h : ¬ (48 ≤ c ∧ c ≤ 57)) : dgS n ≠ x := fun e => dg_free n c h (by rw [← cl_dgS, e]; exact hc)
theorem g_read_part_k (T : Txt K mg ad) {kk : Nat} (C_read_round : CalB P w K mg base true (3 * kk + 4) "read_round" ["reader", "word", "deep"] (spRRk K ad.Reader kk)) : CalB P w K mg base true (3 * kk + 5) "read_part_texts" ["reader", "deep"] (spRPk K ad.Reader (kk + 1)) := by
  have C_is_piece := c_is_piece (P := P) (w := w) (base := base) T
  have C_read_number_texts := g_read_number_texts (P := P) (w := w) (base := base) T
  refine T.t_read_part_texts.calN sc_read_part_texts (fun _ _ _ _ _ _ => by2 fun _ _ => rfl) (fun vs H Q E h => ?_) (fun f cdv A outer s H vs Q E hr h => ?_)
  · obtain ⟨_, _, _, _, _, _, _, rfl, _⟩ := h; rfl
  obtain ⟨a, dx, wl, ws, i, pt, dp, rfl, edp, rd, tk, wp, k⟩ := h
  refine ⟨_, (pss_cons (ps_set (i := 2) sc_read_part_texts.nd rfl (Or.inl rfl) (pe_mB0 (k := 2) (pv 0) (hr.mono (by omega)))) (pss_cons (ps_if (PW.pt (pw_or (pt_cmpR op_eq (pv 2) (pe_glob (v := .str "gap") rfl T.ex.m_GAP ⟨_, rfl⟩) (nomark _)) (pw_or1 (pt_cmpR op_eq (pv 2) (pe_glob (v := .str "glass") rfl T.ex.m_GLASS ⟨_, rfl⟩) (nomark _))))) (pss_one (ps_ret (pe_tup (pa_name (pv 2) (pa_call (pe_cB C_read_number_texts (hr.mono (by omega)) pass01 (pa_call (pe_mB0 (k := 2) (pv 0) (hr.mono (by omega))) pa_nil)) pa_nil))))) pss_nil) (pss_cons (ps_if (pt_cmpR op_ne (pv 2) (pe_glob (v := .str "stop") rfl T.ex.m_STOP ⟨_, rfl⟩) (nomark _)) (pss_one (ps_ret (pe_cB C_read_round (hr.mono (by omega)) pass01 (pa_name (pv 0) (pa_name (pv 2) (pa_name (pv 1) pa_nil)))))) pss_nil) (pss_cons (ps_set (i := 3) sc_read_part_texts.nd rfl (Or.inl rfl) (pe_cB C_read_number_texts (hr.mono (by omega)) pass01 (pa_call (pe_mB0 (k := 2) (pv 0) (hr.mono (by omega))) pa_nil))) (pss_cons (ps_set (i := 4) sc_read_part_texts.nd rfl (Or.inl rfl) (pe_cB C_read_number_texts (hr.mono (by omega)) pass01 (pa_call (pe_mB0 (k := 2) (pv 0) (hr.mono (by omega))) pa_nil))) (pss_cons (ps_if (pt_not (pt_val (pe_cB C_is_piece (hr.mono (by omega)) pass01 (pa_tuple (pe_tup (pa_name (pe_glob (v := .str "stop") rfl T.ex.m_STOP ⟨_, rfl⟩) (pa_name (pv 3) (pa_name (pv 4) pa_nil)))) pa_nil)))) (pss_one ps_never) pss_nil) (pss_one (ps_ret (pe_tup (pa_name (pe_glob (v := .str "stop") rfl T.ex.m_STOP ⟨_, rfl⟩) (pa_name (pv 3) (pa_name (pv 4) pa_nil)))))))))))), ?_⟩
  cases pt with
  | rd n ps =>
    have t0 : ws[i]? = some (dgS n) := TkAt.head tk
    have tk1 := TkAt.tail (show TkAt ws i (dgS n :: (sOf "times" :: sOf "(" :: (jn (toksP _) ps ++ [sOf ")"]))) from tk)
    refine ⟨_, rfl, a, _, dx, _, _, _, rfl, rd.r, rfl, mc_take T, a, dx, wl, ws, i, dgS n, rfl, rd, t0, ?_⟩
    have rd1 := rd.step (i + 1)
    have sd1 : SD a H (upd H a (RdO ad.Reader dx wl (i + 1))) := sd_updA _
    generalize upd H a (RdO ad.Reader dx wl (i + 1)) = H1 at rd1 sd1 ⊢
    refine ⟨_, rfl, rfl, _, rfl, iteF' (by rw [decS]; exact decide_eq_false (dgS_no (c := 103) (by decide +kernel) (by decide))) ⟨_, rfl, rfl, _, rfl, iteF' (by rw [decS]; exact decide_eq_false (dgS_no (c := 103) (by decide +kernel) (by decide))) ?_⟩⟩
    have ns : dgS n ≠ PySem.Str.ofString "stop" := dgS_no (c := 115) (by decide +kernel) (by decide)
    refine ⟨_, rfl, rfl, _, rfl, iteT' (by rw [decS, decide_eq_false ns]; rfl) ?_⟩
    refine ⟨_, rfl, _, rfl, _, rfl, a, dx, wl, ws, i + 1, n, ps, dp, rfl, by omega, rd1, tk1, wp, fun v H2 sd2 rd2 hv => ?_⟩
    refine k v H2 (sd1.trans sd2) ?_ ?_
    · have e : (toksP (kk + 1) (PartF.rd n ps)).length = (jn (toksP _) ps).length + 1 + 3 := by
        show (dgS n :: sOf "times" :: sOf "(" :: (jn (toksP _) ps ++ [sOf ")"])).length = _
        simp only [List.length_cons, List.length_append, List.length_nil]
      rw [e, show i + ((jn (toksP _) ps).length + 1 + 3) = i + 1 + ((jn (toksP _) ps).length + 3) by omega]
      exact rd2
    · refine PV.keep (F := FrA H1) (fun b ys => ⟨fun e => e, fun o e => e⟩) (fun l xs fl hl => ⟨hl, ?_⟩) _ hv
      show H l = none
      have fl : H1 l = none := fl
      cases e : H l with
      | none => rfl
      | some o =>
        by_cases z : l = a
        · rw [z, rd1.r] at fl; cases fl
        · have := sd1 l o z e; rw [fl] at this; cases this
  | pc p =>
  have tk : ∀ j t, (toks p)[j]? = some t → ws[i + j]? = some t := tk
  have ps : PShort p := wp
  have k : ∀ v H', SD a H H' → RdAt ad.Reader a dx wl ws (i + (toks p).length) H' → DV K H' v (pcD p) → Q v H' := k
  have t0 : ws[i]? = some (wd p) := tk 0 (wd p) rfl
  refine ⟨_, rfl, a, _, dx, _, _, _, rfl, rd.r, rfl, mc_take T, a, dx, wl, ws, i, wd p, rfl, rd, t0, ?_⟩
  have rd1 := rd.step (i + 1)
  have sd1 : SD a H (upd H a (RdO ad.Reader dx wl (i + 1))) := sd_updA _
  generalize upd H a (RdO ad.Reader dx wl (i + 1)) = H1 at rd1 sd1 ⊢
  cases p with
  | gap q =>
    have sq : Short q := ps.2 q (by simp [fracs])
    have t1 : ws[i + 1]? = some (shS q) := tk 1 (shS q) rfl
    refine ⟨_, rfl, rfl, _, rfl, iteT' (by rw [decS]; exact decide_eq_true rfl) (iteT ?_)⟩
    refine ⟨_, rfl, _, rfl, a, _, dx, _, _, _, rfl, rd1.r, rfl, mc_take T, a, dx, wl, ws, i + 1, shS q, rfl, rd1, t1, ?_⟩
    have rd2 := rd1.step (i + 1 + 1)
    have sd2 : SD a H1 (upd H1 a (RdO ad.Reader dx wl (i + 1 + 1))) := sd_updA _
    generalize upd H1 a (RdO ad.Reader dx wl (i + 1 + 1)) = H2 at rd2 sd2 ⊢
    refine ⟨q, rfl, sq, fun v H3 s3 hv => ⟨(by show 2 ≤ sizeLine; decide), fun t ht => ?_⟩⟩
    have u := s3.trans (same_new ht (.tup [.str (PySem.Str.ofString "gap"), v]))
    exact k _ _ ((sd1.trans sd2).trans (Lib.SD.ofSame u)) (rd2.keep u) (DV.upd2 ht (.str _) hv)
  | glass q =>
    have sq : Short q := ps.2 q (by simp [fracs])
    have t1 : ws[i + 1]? = some (shS q) := tk 1 (shS q) rfl
    have w1 : wd (.glass q) ≠ PySem.Str.ofString "gap" := by show PySem.Str.ofString "glass" ≠ _; decide +kernel
    refine ⟨_, rfl, rfl, _, rfl, iteF' (by rw [decS]; exact decide_eq_false w1) ⟨_, rfl, rfl, _, rfl, iteT' (by rw [decS]; exact decide_eq_true rfl) ?_⟩⟩
    refine ⟨_, rfl, _, rfl, a, _, dx, _, _, _, rfl, rd1.r, rfl, mc_take T, a, dx, wl, ws, i + 1, shS q, rfl, rd1, t1, ?_⟩
    have rd2 := rd1.step (i + 1 + 1)
    have sd2 : SD a H1 (upd H1 a (RdO ad.Reader dx wl (i + 1 + 1))) := sd_updA _
    generalize upd H1 a (RdO ad.Reader dx wl (i + 1 + 1)) = H2 at rd2 sd2 ⊢
    refine ⟨q, rfl, sq, fun v H3 s3 hv => ⟨(by show 2 ≤ sizeLine; decide), fun t ht => ?_⟩⟩
    have u := s3.trans (same_new ht (.tup [.str (PySem.Str.ofString "glass"), v]))
    exact k _ _ ((sd1.trans sd2).trans (Lib.SD.ofSame u)) (rd2.keep u) (DV.upd2 ht (.str _) hv)
  | stop lo hi =>
    have s1 : Short lo := ps.2 lo (by simp [fracs])
    have s2 : Short hi := ps.2 hi (by simp [fracs])
    have t1 : ws[i + 1]? = some (shS lo) := tk 1 (shS lo) rfl
    have t2 : ws[i + 2]? = some (shS hi) := tk 2 (shS hi) rfl
    have w1 : wd (.stop lo hi) ≠ PySem.Str.ofString "gap" := by show PySem.Str.ofString "stop" ≠ _; decide +kernel
    have w2 : wd (.stop lo hi) ≠ PySem.Str.ofString "glass" := by show PySem.Str.ofString "stop" ≠ _; decide +kernel
    refine ⟨_, rfl, rfl, _, rfl, iteF' (by rw [decS]; exact decide_eq_false w1) ⟨_, rfl, rfl, _, rfl, iteF' (by rw [decS]; exact decide_eq_false w2) ?_⟩⟩
    refine ⟨_, rfl, rfl, _, rfl, iteF' (by rw [decS, decide_eq_true (show wd (.stop lo hi) = PySem.Str.ofString "stop" from rfl)]; rfl) ?_⟩
    refine ⟨_, rfl, a, _, dx, _, _, _, rfl, rd1.r, rfl, mc_take T, a, dx, wl, ws, i + 1, shS lo, rfl, rd1, t1, ?_⟩
    have rd2 := rd1.step (i + 1 + 1)
    have sd2 : SD a H1 (upd H1 a (RdO ad.Reader dx wl (i + 1 + 1))) := sd_updA _
    generalize upd H1 a (RdO ad.Reader dx wl (i + 1 + 1)) = H2 at rd2 sd2 ⊢
    refine ⟨lo, rfl, s1, fun v H3 s3 hv => ?_⟩
    have rd3 := rd2.keep s3
    refine ⟨_, rfl, a, _, dx, _, _, _, rfl, rd3.r, rfl, mc_take T, a, dx, wl, ws, i + 1 + 1, shS hi, rfl, rd3, t2, ?_⟩
    have rd4 := rd3.step (i + 1 + 1 + 1)
    have sd4 : SD a H3 (upd H3 a (RdO ad.Reader dx wl (i + 1 + 1 + 1))) := sd_updA _
    have hv4 : DV K (upd H3 a (RdO ad.Reader dx wl (i + 1 + 1 + 1))) v (frD lo) := dv_keepT (sd_T rd3.r sd4) (noL_fr _) hv
    generalize upd H3 a (RdO ad.Reader dx wl (i + 1 + 1 + 1)) = H4 at rd4 sd4 hv4 ⊢
    refine ⟨hi, rfl, s2, fun y H5 s5 hy => ?_⟩
    have hv5 := hv4.keep s5
    refine ⟨_, rfl, _, rfl, (by show 3 ≤ sizeLine; decide), fun t ht => ?_⟩
    have u := same_new ht (.tup [.str (PySem.Str.ofString "stop"), v, y])
    refine ⟨.ref t, .stop lo hi, 50, rfl, .tup (SqT.of upd_same) (.cons (.str _) (.cons (hv5.keep u) (.cons (hy.keep u) .nil))), ps.1, ⟨bd_short s1, bd_short s2⟩, by decide, fun H6 s6 => ⟨_, rfl, iteF ?_⟩⟩
    refine ⟨_, rfl, _, rfl, (by show 3 ≤ sizeLine; decide), fun t2 ht2 => ?_⟩
    have u2 := (u.trans s6).trans (same_new ht2 (.tup [.str (PySem.Str.ofString "stop"), v, y]))
    refine k _ _ ((((sd1.trans sd2).trans (Lib.SD.ofSame s3)).trans sd4).trans (Lib.SD.ofSame (s5.trans u2))) (rd4.keep (s5.trans u2)) (.tup (SqT.of upd_same) (.cons (.str _) (.cons (hv5.keep u2) (.cons (hy.keep u2) .nil))))
theorem jn_ne {k : Nat} {ps : List (Part k)} (h : ps ≠ []) : jn (toksP k) ps ≠ [] := fun e => by
  cases ps with
  | nil => exact h rfl
  | cons p r =>
    have := jn_ge (p :: r)
    rw [e] at this
    simp at this
theorem g_read_parts_of (T : Txt K mg ad) {k : Nat} (C_read_part_texts : CalB P w K mg base true (3 * k + 5) "read_part_texts" ["reader", "deep"] (spRPk K ad.Reader (k + 1))) : CalB P w K mg base true (3 * (k + 1) + 3) "read_parts" ["reader", "deep"] (spRPsk K ad.Reader (k + 1)) := by
  refine T.t_read_parts.calN sc_read_parts (fun _ _ _ _ _ _ => by2 fun _ _ => rfl) (fun vs H Q E h => ?_) (fun f cdv A outer s H vs Q E hr h => ?_)
  · obtain ⟨_, _, _, _, _, _, _, rfl, _⟩ := h; rfl
  obtain ⟨a, dx, wl, ws, i0, ps, dp, rfl, edp, rd, tk, nsm, ne, l4, sh, q⟩ := h
  refine ⟨_, (pss_cons (ps_set (i := 2) sc_read_parts.nd rfl (Or.inl rfl) (pe_lst (pa_call (pe_cB C_read_part_texts (hr.mono (by omega)) pass01 (pa_name (pv 0) (pa_name (pv 1) pa_nil))) pa_nil))) (pss_cons (ps_while PassesOwn.never (pt_val (pe_mB (k := 2) (pv 0) (hr.mono (by omega)) (pa_name (pe_glob (v := .str ";") rfl T.ex.m_PARTED ⟨_, rfl⟩) pa_nil))) (pss_one (ps_expr (pe_bm PySem.F.plainAttrs_list PySem.F.slot_list_append PySem.F.type_list_append mt_append (pv 2) (pa_call (pe_cB C_read_part_texts (hr.mono (by omega)) pass01 (pa_name (pv 0) (pa_name (pv 1) pa_nil))) pa_nil))))) (pss_one (ps_ret (pv 2))))), ?_⟩
  have hle := tk.le (jn_ne ne)
  generalize hm : k + 1 = m at *
  cases ps with
  | nil => exact absurd rfl ne
  | cons p r =>
    rw [jn_tail] at tk
    have eL : (jn (toksP m) (p :: r)).length = (toksP m p).length + (tailP m r).length := by rw [jn_tail, List.length_append]
    refine ⟨_, rfl, _, rfl, a, dx, wl, ws, i0, p, dp, rfl, edp, rd, tk.left, sh p List.mem_cons_self, fun v H1 sd1 rd1 hv => ⟨(by show 1 ≤ sizeLine; decide), fun l hl => ?_⟩⟩
    have u := same_new hl (.lst [v])
    have nla : l ≠ a := fun e => by rw [e, rd1.r] at hl; cases hl
    have nlw : wl ≠ l := fun e => by rw [← e, rd1.w] at hl; cases hl
    have nl : H l = none := by
      cases e : H l with
      | none => rfl
      | some o => have := sd1 l o nla e; rw [this] at hl; cases hl
    have sdl : SD a H (upd H1 l (.lst [v])) := sd1.trans (Lib.SD.ofSame u)
    have rdl := rd1.keep u
    have ml : upd H1 l (.lst [v]) l = some (.lst [v]) := upd_same
    have hvl : PVs K m (fun b => H b = none ∧ b ≠ l) (upd H1 l (.lst [v])) [v] [p] := by
      have : PV K m (fun b => H b = none ∧ b ≠ l) (upd H1 l (.lst [v])) v p := PV.keep (F := FrA H) u.t (fun b xs fb hb => ⟨u _ _ hb, fb, ne_of_none hb hl⟩) _ hv
      exact PVs.concat PVs.nil this
    generalize upd H1 l (.lst [v]) = H2 at sdl rdl ml hvl ⊢
    refine ⟨fun mm σ H' => ∃ (dn rs : List (Part m)) (i : Nat) (xs : List V), p :: r = dn ++ rs ∧ mm = rs.length ∧ σ = [some (.ref a), some (.int dp), some (.ref l)] ∧ SD a H H' ∧ RdAt ad.Reader a dx wl ws i H' ∧ i + (tailP m rs).length = i0 + (jn (toksP m) (p :: r)).length ∧ TkAt ws i (tailP m rs) ∧ H' l = some (.lst xs) ∧ PVs K m (fun b => H b = none ∧ b ≠ l) H' xs dn,
      ⟨_, [p], r, _, [v], rfl, rfl, rfl, sdl, rdl, by rw [eL]; omega, tk.right, ml, hvl⟩, ?_⟩
    rintro mm σ H' ⟨dn, rs, i, xs, ep, rfl, rfl, sd, rd', il, tk', hl', hxs⟩
    have xl : xs.length ≤ 50000 := by
      have h1 := hxs.1
      have h2 := congrArg List.length ep
      rw [List.length_append] at h2
      omega
    refine ⟨_, rfl, a, _, dx, _, _, _, rfl, rd'.r, rfl, mc_take_if T, a, dx, wl, ws, i, PySem.Str.ofString ";", rfl, rd', by omega, fun e => ?_, fun e => ?_⟩
    · cases rs with
      | nil =>
        have : i = i0 + (jn (toksP m) (p :: r)).length := il
        rw [this] at e
        exact absurd e nsm
      | cons z rs =>
        refine ⟨_, rfl, iteT ?_⟩
        have tk1 : TkAt ws (i + 1) (toksP m z ++ tailP m rs) := by
          rw [← jn_tail]
          exact TkAt.tail tk'
        have eT : (tailP m (z :: rs)).length = 1 + ((toksP m z).length + (tailP m rs).length) := by
          show (sOf ";" :: jn (toksP m) (z :: rs)).length = _
          rw [jn_tail, List.length_cons, List.length_append]
          omega
        have rd1' := rd'.step (i + 1)
        have sdu : SD a H' (upd H' a (RdO ad.Reader dx wl (i + 1))) := sd_updA _
        have hlu : upd H' a (RdO ad.Reader dx wl (i + 1)) l = some (.lst xs) := by rw [upd_ne nla]; exact hl'
        have hxu : PVs K m (fun b => H b = none ∧ b ≠ l) (upd H' a (RdO ad.Reader dx wl (i + 1))) xs dn := hxs.keep (sd_T rd'.r sdu) fun b ys fb hb => ⟨sdu b _ (fun z => by rw [z, rd'.r] at hb; cases hb) hb, fb⟩
        generalize upd H' a (RdO ad.Reader dx wl (i + 1)) = H3 at rd1' sdu hlu hxu ⊢
        have sd3 := sd.trans sdu
        refine ⟨fun σ' H'' => ∃ (dn rs' : List (Part m)) (i : Nat) (xs : List V), p :: r = dn ++ rs' ∧ rs'.length = rs.length ∧ σ' = [some (.ref a), some (.int dp), some (.ref l)] ∧ SD a H H'' ∧ RdAt ad.Reader a dx wl ws i H'' ∧ i + (tailP m rs').length = i0 + (jn (toksP m) (p :: r)).length ∧ TkAt ws i (tailP m rs') ∧ H'' l = some (.lst xs) ∧ PVs K m (fun b => H b = none ∧ b ≠ l) H'' xs dn,
          fun σ' H'' ⟨dn', rs', i', xs', h1, h2, h3⟩ => ⟨rs.length, by simp, dn', rs', i', xs', h1, h2.symm, h3⟩, ?_⟩
        refine ⟨_, rfl, .inl ⟨rfl, _, SqL.of hlu⟩, _, rfl, _, rfl, a, dx, wl, ws, i + 1, z, dp, rfl, edp, rd1', tk1.left, sh z (by rw [ep]; simp), fun y H4 sd4 rd4 hy => ?_⟩
        have hl4 : H4 l = some (.lst xs) := sd4 l _ nla hlu
        have hx4 : PVs K m (fun b => H b = none ∧ b ≠ l) H4 xs dn := hxu.keep (sd_T rd1'.r sd4) fun b ys fb hb => ⟨sd4 b _ (fun z => by rw [z, rd1'.r] at hb; cases hb) hb, fb⟩
        have hy4 : PV K m (fun b => H b = none ∧ b ≠ l) H4 y z := PV.keep (F := FrA H3) (fun b ys => ⟨fun e => e, fun o e => e⟩) (fun b xs' fb hb => ⟨hb, by
          have fb : H3 b = none := fb
          refine ⟨?_, fun e => by rw [e, hlu] at fb; cases fb⟩
          cases e : H b with
          | none => rfl
          | some o =>
            by_cases z : b = a
            · rw [z, rd1'.r] at fb; cases fb
            · have := sd3 b o z e; rw [fb] at this; cases this⟩) _ hy
        refine ⟨l, xs, _, rfl, rfl, hl4, small10k (by omega), ?_⟩
        have uT := sameT_upd hl4 (.lst (xs ++ [y]))
        refine ⟨dn ++ [z], rs, _, xs ++ [y], by rw [ep, List.append_assoc]; rfl, rfl, rfl, ?_, ⟨by rw [upd_ne (Ne.symm nla)]; exact rd4.r, by rw [upd_ne nlw]; exact rd4.w, rd4.le⟩, ?_, tk1.right, upd_same, ?_⟩
        · intro b o nb e
          have nbl : b ≠ l := ne_of_none e nl
          rw [upd_ne nbl]
          exact sd4 b o nb (sdu b o nb (sd b o nb e))
        · omega
        · exact (hx4.concat hy4).keep uT fun b ys fb hb => ⟨by rw [upd_ne fb.2]; exact hb, fb⟩
    · refine ⟨_, rfl, iteF ?_⟩
      cases rs with
      | cons z rs => exact absurd (TkAt.head tk') e
      | nil =>
        have ei : i = i0 + (jn (toksP m) (p :: r)).length := il
        subst ei
        rw [List.append_nil] at ep
        subst ep
        exact ⟨_, rfl, q l xs H' sd nl rd' hl' hxs⟩
theorem g_read_parts_k (T : Txt K mg ad) : ∀ k : Nat, CalB P w K mg base true (3 * k + 3) "read_parts" ["reader", "deep"] (spRPsk K ad.Reader k)
  | 0 => by
    have no : ∀ {vs : List V} {H : Hp} {Q : VK} {E : XK}, spRPsk K ad.Reader 0 vs H Q E → False := fun h => by
      obtain ⟨a, dx, wl, ws, i0, ps, dp, rfl, edp, rd, tk, nsm, ne, l4, sh, q⟩ := h
      cases ps with
      | nil => exact ne rfl
      | cons e _ => exact nomatch e
    exact T.t_read_parts.calN sc_read_parts (fun _ _ _ _ _ _ => by2 fun _ _ => rfl) (fun vs H Q E h => (no h).elim) (fun f cdv A outer s H vs Q E hr h => (no h).elim)
  | k + 1 => g_read_parts_of T (g_read_part_k T (g_read_round T (g_read_parts_k T k)))
end
end K72
namespace K72
open PySem L2 Lib Fr Op Tx PySem.NumText
seal PE PT PW PA PS PSs PG PGs PI PO PIfs PJ
section
variable {P : Program} {w : World} {K : PySem.W.Frag} {mg : PySem.Str → Option Value} {base : Heap} {ad : Adr} {c : Bool}
theorem head_pc {H : Hp} {x : V} {pc : Pc} (hx : DV K H x (pcD pc)) : ∃ (t : Addr) (xr : List V), x = .ref t ∧ SqT K H t (.str (wd pc) :: xr) ∧ wd pc ≠ PySem.Str.ofString "times" := by
  cases pc with
  | gap g =>
    obtain ⟨t, y0, y1, rfl, ht, g0, _⟩ := DV.t2 (show DV K H x (.tuple [.str "gap", frD g]) from hx)
    obtain rfl := DV.str_of g0
    exact ⟨t, _, rfl, ht, by show PySem.Str.ofString "gap" ≠ _; decide +kernel⟩
  | glass g =>
    obtain ⟨t, y0, y1, rfl, ht, g0, _⟩ := DV.t2 (show DV K H x (.tuple [.str "glass", frD g]) from hx)
    obtain rfl := DV.str_of g0
    exact ⟨t, _, rfl, ht, by show PySem.Str.ofString "glass" ≠ _; decide +kernel⟩
  | stop g1 g2 =>
    obtain ⟨t, y0, y1, y2, rfl, ht, g0, _, _⟩ := DV.t3 (show DV K H x (.tuple [.str "stop", frD g1, frD g2]) from hx)
    obtain rfl := DV.str_of g0
    exact ⟨t, _, rfl, ht, by show PySem.Str.ofString "stop" ≠ _; decide +kernel⟩
theorem cnt_step {k : Nat} {ps : List (Part k)} {i : Nat} {p : Part k} (h : ps[i]? = some p) : cntL k (ps.take (i + 1)) = cntL k (ps.take i) + cnt k p := by
  unfold cntL
  rw [List.take_add_one, h, List.map_append, List.sum_append]
  simp
theorem told_step {k : Nat} {ps : List (Part k)} {i : Nat} {p : Part k} (h : ps[i]? = some p) : toldL k (ps.take (i + 1)) = toldL k (ps.take i) ++ told k p := by
  unfold toldL
  rw [List.take_add_one, h, List.map_append, List.flatten_append]
  simp
theorem cnt_take {k : Nat} (ps : List (Part k)) (i : Nat) : cntL k (ps.take i) ≤ cntL k ps := by
  have h := congrArg (cntL k) (List.take_append_drop i ps)
  unfold cntL at h ⊢
  rw [List.map_append, List.sum_append] at h
  omega
theorem get_some {xs : List V} {k : Nat} {ps : List (Part k)} {i : Nat} {x : V} (e : xs.length = ps.length) (h : xs[i]? = some x) : ∃ p, ps[i]? = some p := ⟨_, List.getElem?_eq_getElem (by rw [← e]; exact lt_of_get h)⟩
theorem g_count_k (T : Txt K mg ad) : ∀ k : Nat, CalB P w K mg base true (k + 2) "count_of" ["parts"] (spCntk K k)
  | 0 => by
    have C_count_of := T.t_count_of.not (P := P) (w := w) (base := base) (k := 0) sc_count_of (fun _ _ _ _ _ _ => by1 fun _ => rfl)
    refine T.t_count_of.calN sc_count_of (fun _ _ _ _ _ _ => by1 fun _ => rfl) (fun vs H Q E h => ?_) (fun f cdv A outer s H vs Q E hr h => ?_)
    · obtain ⟨_, _, _, _, rfl, _⟩ := h; rfl
    obtain ⟨l, xs, ps, F, rfl, hl, hxs, l4, wp, k5, q⟩ := h
    obtain rfl : ps = [] := by
      cases ps with
      | nil => rfl
      | cons e _ => exact nomatch e
    obtain rfl : xs = [] := List.length_eq_zero_iff.mp hxs.1
    refine ⟨_, (pss_cons (ps_set (i := 1) sc_count_of.nd rfl (Or.inl rfl) pe_int) (pss_cons (ps_for PassesOwn.never rfl (pi_list (pv 0)) (pg_name (i := 2) sc_count_of.nd rfl (by first | exact Or.inl rfl | exact Or.inr rfl)) (pss_one (ps_aug (i := 1) sc_count_of.nd rfl (Or.inl rfl) (pe_ifExp (pt_cmpR op_eq (pe_ix ix_tup (pv 2) pe_int (fun _ _ => rfl)) (pe_glob (v := .str "times") rfl T.ex.m_TIMES ⟨_, rfl⟩) (nomark _)) (pe_op op_mul (pe_ix ix_tup (pv 2) pe_int (fun _ _ => rfl)) (pe_cB C_count_of (hr.mono (by decide)) pass01 (pa_sub (pe_ix ix_tup (pv 2) pe_int (fun _ _ => rfl)) pa_nil))) pe_int) ip_add))) (pss_one (ps_ret (pv 1))))), ?_⟩
    refine ⟨_, rfl, l, rfl, ⟨_, SqL.of hl⟩, ?_⟩
    refine for_list (K := K) (a := l) (xs := []) (fun i σ H' => ∃ c2, σ = [some (.ref l), some (.int 0), c2] ∧ H' = H) ⟨_, rfl, rfl⟩ ?_ ?_ ?_
    · rintro i σ H' hi ⟨c2, rfl, rfl⟩
      exact SqL.of hl
    · rintro i x σ H' hi ⟨c2, rfl, rfl⟩
      cases hi
    · rintro σ H' ⟨c2, rfl, rfl⟩
      exact ⟨_, rfl, q⟩
  | k + 1 => by
    have C_count_of := g_count_k T k
    refine T.t_count_of.calN sc_count_of (fun _ _ _ _ _ _ => by1 fun _ => rfl) (fun vs H Q E h => ?_) (fun f cdv A outer s H vs Q E hr h => ?_)
    · obtain ⟨_, _, _, _, rfl, _⟩ := h; rfl
    obtain ⟨l, xs, ps, F, rfl, hl, hxs, l4, wp, k5, q⟩ := h
    refine ⟨_, (pss_cons (ps_set (i := 1) sc_count_of.nd rfl (Or.inl rfl) pe_int) (pss_cons (ps_for PassesOwn.never rfl (pi_list (pv 0)) (pg_name (i := 2) sc_count_of.nd rfl (by first | exact Or.inl rfl | exact Or.inr rfl)) (pss_one (ps_aug (i := 1) sc_count_of.nd rfl (Or.inl rfl) (pe_ifExp (pt_cmpR op_eq (pe_ix ix_tup (pv 2) pe_int (fun _ _ => rfl)) (pe_glob (v := .str "times") rfl T.ex.m_TIMES ⟨_, rfl⟩) (nomark _)) (pe_op op_mul (pe_ix ix_tup (pv 2) pe_int (fun _ _ => rfl)) (pe_cB C_count_of (hr.mono (by omega)) pass01 (pa_sub (pe_ix ix_tup (pv 2) pe_int (fun _ _ => rfl)) pa_nil))) pe_int) ip_add))) (pss_one (ps_ret (pv 1))))), ?_⟩
    refine ⟨_, rfl, l, rfl, ⟨_, SqL.of hl⟩, ?_⟩
    refine for_list (K := K) (a := l) (xs := xs) (fun i σ H' => ∃ c2, σ = [some (.ref l), some (.int (cntL (k + 1) (ps.take i) : Int)), c2] ∧ H' = H) ⟨_, rfl, rfl⟩ ?_ ?_ ?_
    · rintro i σ H' hi ⟨c2, rfl, rfl⟩
      exact SqL.of hl
    · rintro i x σ H' hi ⟨c2, rfl, rfl⟩
      obtain ⟨p, hp⟩ := get_some hxs.1 hi
      have hv := hxs.2 i x p hi hp
      have es := cnt_step hp
      have wpp := wp p (List.mem_of_getElem? hp)
      cases p with
      | pc pc =>
        obtain ⟨t, xr, rfl, ht, ne⟩ := head_pc (show DV K H' x (pcD pc) from hv)
        refine ⟨_, rfl, _, rfl, t, _, _, _, rfl, rfl, ht, atI0, rfl, _, rfl, iteF' (by rw [decS]; exact decide_eq_false ne) ⟨_, _, rfl, rfl, ?_⟩⟩
        rw [es]
        exact ⟨_, by show [some (V.ref l), some (V.int (((cntL (k + 1) (ps.take i) : Nat) : Int) + 1)), some (V.ref t)] = [some (V.ref l), some (V.int ((cntL (k + 1) (ps.take i) + 1 : Nat) : Int)), some (V.ref t)]; rw [Int.natCast_add]; rfl, rfl⟩
      | rd n qs =>
        obtain ⟨t, l2, ys, rfl, ht, fl, hl2, el, hy⟩ := hv
        have ht' := SqT.of (K := K) ht
        refine ⟨_, rfl, _, rfl, t, _, _, _, rfl, rfl, ht', atI0, rfl, _, rfl, iteT' (by rw [decS]; exact decide_eq_true rfl) ?_⟩
        refine ⟨_, rfl, t, _, _, _, rfl, rfl, ht', rfl, _, rfl, t, _, _, _, rfl, rfl, ht', rfl, l2, ys, qs, F, rfl, hl2, ⟨el, hy⟩, wpp.2.2.1, wpp.2.2.2, by omega, ?_⟩
        have n60 : n ≤ 60 := wpp.1
        refine ⟨_, _, rfl, rfl, .inl ⟨by omega, by omega⟩, _, _, rfl, rfl, ?_⟩
        rw [es]
        have e : ((cntL (k + 1) (ps.take i) : Nat) : Int) + (n : Int) * ((cntL k qs : Nat) : Int) = ((cntL (k + 1) (ps.take i) + cnt (k + 1) (PartF.rd n qs) : Nat) : Int) := by
          rw [Int.natCast_add, show cnt (k + 1) (PartF.rd n qs) = n * cntL k qs from rfl, Int.natCast_mul]
        rw [← e]
        exact ⟨_, rfl, rfl⟩
    · rintro σ H' ⟨c2, rfl, rfl⟩
      rw [hxs.1, List.take_length]
      exact ⟨_, rfl, q⟩
theorem g_told_k (T : Txt K mg ad) : ∀ k : Nat, CalB P w K mg base true (k + 2) "told_out" ["parts"] (spOutk K k)
  | 0 => by
    have C_told_out := T.t_told_out.not (P := P) (w := w) (base := base) (k := 0) sc_told_out (fun _ _ _ _ _ _ => by1 fun _ => rfl)
    refine T.t_told_out.calN sc_told_out (fun _ _ _ _ _ _ => by1 fun _ => rfl) (fun vs H Q E h => ?_) (fun f cdv A outer s H vs Q E hr h => ?_)
    · obtain ⟨_, _, _, _, rfl, _⟩ := h; rfl
    obtain ⟨l, xs, ps, F, rfl, hl, hxs, l4, wp, c60, q⟩ := h
    obtain rfl : ps = [] := by
      cases ps with
      | nil => rfl
      | cons e _ => exact nomatch e
    obtain rfl : xs = [] := List.length_eq_zero_iff.mp hxs.1
    refine ⟨_, (pss_cons (ps_set (i := 1) sc_told_out.nd rfl (Or.inl rfl) (pe_lst pa_nil)) (pss_cons (ps_for PassesOwn.never rfl (pi_list (pv 0)) (pg_name (i := 2) sc_told_out.nd rfl (by first | exact Or.inl rfl | exact Or.inr rfl)) (pss_one (ps_if (pt_cmpR op_ne (pe_ix ix_tup (pv 2) pe_int (fun _ _ => rfl)) (pe_glob (v := .str "times") rfl T.ex.m_TIMES ⟨_, rfl⟩) (nomark _)) (pss_one (ps_expr (pe_bm PySem.F.plainAttrs_list PySem.F.slot_list_append PySem.F.type_list_append mt_append (pv 1) (pa_name (pv 2) pa_nil)))) (pss_one (ps_if (pt_cmpR op_gt (pe_ix ix_tup (pv 2) pe_int (fun _ _ => rfl)) pe_int (nomark _)) (pss_one (ps_expr (pe_bm PySem.F.plainAttrs_list PySem.F.slot_list_extend PySem.F.type_list_extend mt_extend (pv 1) (pa_bin (pe_op op_rep (pe_cB C_told_out (hr.mono (by decide)) pass01 (pa_sub (pe_ix ix_tup (pv 2) pe_int (fun _ _ => rfl)) pa_nil)) (pe_ix ix_tup (pv 2) pe_int (fun _ _ => rfl))) pa_nil)))) pss_nil))))) (pss_one (ps_ret (pv 1))))), ?_⟩
    refine ⟨(by show 0 ≤ sizeLine; decide), fun l2 nl => ?_⟩
    have u0 := same_new nl (.lst [])
    have m0 : upd H l2 (.lst []) l2 = some (.lst []) := upd_same
    generalize upd H l2 (.lst []) = H1 at u0 m0 ⊢
    refine ⟨_, rfl, l, rfl, ⟨_, SqL.of (u0 _ _ hl)⟩, ?_⟩
    refine for_list (K := K) (a := l) (xs := []) (fun i σ H' => ∃ c2, σ = [some (.ref l), some (.ref l2), c2] ∧ H' = H1) ⟨_, rfl, rfl⟩ ?_ ?_ ?_
    · rintro i σ H' hi ⟨c2, rfl, rfl⟩
      exact SqL.of (u0 _ _ hl)
    · rintro i x σ H' hi ⟨c2, rfl, rfl⟩
      cases hi
    · rintro σ H' ⟨c2, rfl, rfl⟩
      exact ⟨_, rfl, q l2 [] H' u0 nl m0 .nil⟩
  | k + 1 => by
    have C_told_out := g_told_k T k
    refine T.t_told_out.calN sc_told_out (fun _ _ _ _ _ _ => by1 fun _ => rfl) (fun vs H Q E h => ?_) (fun f cdv A outer s H vs Q E hr h => ?_)
    · obtain ⟨_, _, _, _, rfl, _⟩ := h; rfl
    obtain ⟨l, xs, ps, F, rfl, hl, hxs, l4, wp, c60, q⟩ := h
    refine ⟨_, (pss_cons (ps_set (i := 1) sc_told_out.nd rfl (Or.inl rfl) (pe_lst pa_nil)) (pss_cons (ps_for PassesOwn.never rfl (pi_list (pv 0)) (pg_name (i := 2) sc_told_out.nd rfl (by first | exact Or.inl rfl | exact Or.inr rfl)) (pss_one (ps_if (pt_cmpR op_ne (pe_ix ix_tup (pv 2) pe_int (fun _ _ => rfl)) (pe_glob (v := .str "times") rfl T.ex.m_TIMES ⟨_, rfl⟩) (nomark _)) (pss_one (ps_expr (pe_bm PySem.F.plainAttrs_list PySem.F.slot_list_append PySem.F.type_list_append mt_append (pv 1) (pa_name (pv 2) pa_nil)))) (pss_one (ps_if (pt_cmpR op_gt (pe_ix ix_tup (pv 2) pe_int (fun _ _ => rfl)) pe_int (nomark _)) (pss_one (ps_expr (pe_bm PySem.F.plainAttrs_list PySem.F.slot_list_extend PySem.F.type_list_extend mt_extend (pv 1) (pa_bin (pe_op op_rep (pe_cB C_told_out (hr.mono (by omega)) pass01 (pa_sub (pe_ix ix_tup (pv 2) pe_int (fun _ _ => rfl)) pa_nil)) (pe_ix ix_tup (pv 2) pe_int (fun _ _ => rfl))) pa_nil)))) pss_nil))))) (pss_one (ps_ret (pv 1))))), ?_⟩
    refine ⟨(by show 0 ≤ sizeLine; decide), fun l2 nl => ?_⟩
    have u0 := same_new nl (.lst [])
    have b0 : Bx K H l2 [] (upd H l2 (.lst [])) := ⟨u0, nl, [], upd_same, .nil⟩
    generalize upd H l2 (.lst []) = H1 at u0 b0 ⊢
    refine ⟨_, rfl, l, rfl, ⟨_, SqL.of (u0 _ _ hl)⟩, ?_⟩
    refine for_list (K := K) (a := l) (xs := xs) (fun i σ H' => ∃ c2, σ = [some (.ref l), some (.ref l2), c2] ∧ Bx K H l2 (toldL (k + 1) (ps.take i)) H') ⟨_, rfl, b0⟩ ?_ ?_ ?_
    · rintro i σ H' hi ⟨c2, rfl, bx⟩
      exact SqL.of (bx.s _ _ hl)
    · rintro i x σ H' hi ⟨c2, rfl, bx⟩
      obtain ⟨p, hp⟩ := get_some hxs.1 hi
      have hv := (hxs.same bx.s).2 i x p hi hp
      have es := told_step hp
      have wpp := wp p (List.mem_of_getElem? hp)
      obtain ⟨ys, e1, e2⟩ := bx.ex
      have hc := cnt_take ps (i + 1)
      rw [cnt_step hp] at hc
      have yl : ys.length + cnt (k + 1) p ≤ 60 := by
        have h1 := e2.len
        rw [List.length_map, cntL_told] at h1
        omega
      cases p with
      | pc pc =>
        obtain ⟨t, xr, rfl, ht, ne⟩ := head_pc (show DV K H' x (pcD pc) from hv)
        refine ⟨_, rfl, t, _, _, _, rfl, rfl, ht, atI0, rfl, _, rfl, iteT' (by rw [decS, decide_eq_false ne]; rfl) ?_⟩
        refine ⟨_, rfl, .inl ⟨rfl, _, SqL.of e1⟩, _, rfl, l2, ys, _, rfl, rfl, e1, small1000 (by omega), _, rfl, ?_⟩
        rw [es]
        exact Bx.more (zs := [.ref t]) (qs := [pc]) bx.s bx.n e1 e2 (.cons hv .nil)
      | rd n qs =>
        obtain ⟨t, l3, zs, rfl, ht, fl, hl3, el, hz⟩ := hv
        have ht' := SqT.of (K := K) ht
        have n60 : n ≤ 60 := wpp.1
        refine ⟨_, rfl, t, _, _, _, rfl, rfl, ht', atI0, rfl, _, rfl, iteF' (by rw [decS, decide_eq_true rfl]; rfl) ?_⟩
        refine ⟨_, rfl, t, _, _, _, rfl, rfl, ht', rfl, _, _, rfl, rfl, _, rfl, ?_⟩
        by_cases n0 : n = 0
        · subst n0
          refine iteF' (decide_eq_false (by decide)) ⟨_, rfl, ?_⟩
          rw [es, show told (k + 1) (PartF.rd 0 qs) = [] from rfl, List.append_nil]
          exact bx
        · have cq : n * cntL k qs ≤ 60 := by
            have : cnt (k + 1) (PartF.rd n qs) = n * cntL k qs := rfl
            omega
          have cq1 : cntL k qs ≤ 60 := Nat.le_trans (Nat.le_mul_of_pos_left _ (by omega)) cq
          refine iteT' (decide_eq_true (by omega)) ?_
          refine ⟨_, rfl, .inl ⟨rfl, _, SqL.of e1⟩, _, rfl, t, _, _, _, rfl, rfl, ht', rfl, l3, zs, qs, F, rfl, hl3, ⟨el, hz⟩, wpp.2.2.1, wpp.2.2.2, cq1, fun l4 us H2 s2 nl4 hl4 hus => ?_⟩
          have ul : us.length = cntL k qs := by rw [← cntL_told]; have := hus.len; rw [List.length_map] at this; exact this
          have um : us.length * n ≤ 60 := by rw [ul, Nat.mul_comm]; exact cq
          refine ⟨_, rfl, t, _, _, _, rfl, rfl, ht'.keep s2, rfl, l4, _, us, rfl, rfl, hl4, by omega, by omega, Nat.le_of_lt (small1000 (by rw [Int.toNat_natCast]; omega)), fun l5 hl5 => ?_⟩
          rw [Int.toNat_natCast]
          have u5 := same_new hl5 (.lst (List.replicate n us).flatten)
          have e15 := u5 _ _ (s2 _ _ e1)
          have d5 : DVs K (upd H2 l5 (.lst (List.replicate n us).flatten)) (List.replicate n us).flatten ((told (k + 1) (PartF.rd n qs)).map pcD) := by
            have := dvs_repF (hus.keep u5) n
            rw [show told (k + 1) (PartF.rd n qs) = (List.replicate n (toldL k qs)).flatten from rfl, List.map_flatten, List.map_replicate]
            exact this
          have rl : (List.replicate n us).flatten.length ≤ 60 := by rw [len_rep, Nat.mul_comm]; exact um
          refine ⟨l2, l5, ys, _, rfl, rfl, e15, upd_same, Nat.le_of_lt (small1000 (by omega)), _, rfl, ?_⟩
          rw [es]
          exact Bx.more (bx.s.trans (s2.trans u5)) bx.n e15 (e2.keep (s2.trans u5)) d5
    · rintro σ H' ⟨c2, rfl, bx⟩
      rw [hxs.1, List.take_length] at bx
      obtain ⟨ys, e1, e2⟩ := bx.ex
      exact ⟨_, rfl, q l2 ys H' bx.s bx.n e1 e2⟩
end
end K72
namespace K72
open PySem L2 Lib Fr Op Tx PySem.NumText
seal PE PT PW PA PS PSs PG PGs PI PO PIfs PJ
section
variable {P : Program} {w : World} {K : PySem.W.Frag} {mg : PySem.Str → Option Value} {base : Heap} {ad : Adr} {c : Bool}
def spRBk (K : PySem.W.Frag) (N : Addr) : Sp := fun vs H Q E => ∃ ps : List (Part 5), vs = [.str (textL 5 ps)] ∧ ps.length ≤ 50000 ∧ (∀ p ∈ ps, WP 5 p) ∧ (textL 5 ps).length ≤ 20000 ∧
  (cntL 5 ps ≤ 60 → ∀ l xs H', Same H H' → H l = none → H' l = some (.lst xs) → DVs K H' xs ((toldL 5 ps).map pcD) → Q (.ref l) H') ∧ (60 < cntL 5 ps → ∀ H', Same H H' → E (.ref N) none H')
theorem textL_ne {k : Nat} {ps : List (Part k)} (h : ∀ p ∈ ps, WP k p) (ne : ps ≠ []) : textL k ps ≠ PySem.Str.ofString "" := fun e => by
  have h1 := words_textL h ne
  rw [e] at h1
  have h2 : wordsF (Txt.split (PySem.Str.ofString "") (PySem.Str.ofString " ")) = [PySem.Str.ofString ""] := by decide +kernel
  rw [h2] at h1
  have : ∀ (k : Nat) (p : Part k) (u : List PySem.Str), WP k p → [PySem.Str.ofString ""] ≠ toksP k p ++ u := by
    intro k p u _ e
    cases k with
    | zero => exact nomatch p
    | succ k =>
      cases p with
      | pc p =>
        have := congrArg List.length e
        have h3 := toks_len p
        rw [List.length_append] at this
        have h4 : (toksP (k + 1) (PartF.pc p)).length = (toks p).length := rfl
        simp only [List.length_cons, List.length_nil] at this
        omega
      | rd n qs =>
        have := congrArg List.length e
        rw [List.length_append] at this
        have h4 : (toksP (k + 1) (PartF.rd n qs)).length = (jn (toksP k) qs).length + 1 + 3 := by
          show (dgS n :: sOf "times" :: sOf "(" :: (jn (toksP _) qs ++ [sOf ")"])).length = _
          simp only [List.length_cons, List.length_append, List.length_nil]
        simp only [List.length_cons, List.length_nil] at this
        omega
  cases ps with
  | nil => exact ne rfl
  | cons p r =>
    rw [jn_tail] at h1
    exact this k p _ (h p (by simp)) h1
theorem g_read_bench_k (T : Txt K mg ad) : CalB P w K mg base true 20 "read_bench" ["text"] (spRBk K ad.NoText) := by
  have C_words_of := g_words_of (P := P) (w := w) (base := base) T
  have C_read_parts := g_read_parts_k (P := P) (w := w) (base := base) T 5
  have C_count_of := g_count_k (P := P) (w := w) (base := base) T 5
  have C_told_out := g_told_k (P := P) (w := w) (base := base) T 5
  have M_Reader := k_Reader (P := P) (w := w) (base := base) T
  refine T.t_read_bench.calB sc_read_bench (fun _ _ _ _ _ _ => by1 fun _ => rfl) (fun vs H Q E h => ?_) (fun f cdv A outer s H vs Q E hr h => ?_)
  · obtain ⟨_, rfl, _⟩ := h; rfl
  obtain ⟨ps, rfl, l4, wp, tl, q, qx⟩ := h
  refine ⟨_, (pss_cons (ps_if (pt_not (pt_val (pe_callB call_isiD rfl T.isinstance bt_isinstance (pa_name (pv 0) (pa_name (pe_bltn (v := .ty "str") rfl T.str bt_str rfl) pa_nil))))) (pss_one (ps_raise bodyB rfl T.ex.c_NoText (pa_const pe_str pa_nil))) pss_nil) (pss_cons (ps_if (pt_cmpR op_eq (pv 0) pe_str (nomark _)) (pss_one (ps_ret (pe_lst pa_nil))) pss_nil) (pss_cons (ps_set (i := 1) sc_read_bench.nd rfl (Or.inl rfl) (pe_mkB M_Reader (hr.mono (by decide)) (pa_call (pe_cB C_words_of (hr.mono (by decide)) pass01 (pa_name (pv 0) pa_nil)) pa_nil))) (pss_cons (ps_set (i := 2) sc_read_bench.nd rfl (Or.inl rfl) (pe_cB C_read_parts (hr.mono (by decide)) pass01 (pa_name (pv 1) (pa_const pe_int pa_nil)))) (pss_cons (ps_if (pt_not (pt_val (pe_mB0 (k := 1) (pv 1) (hr.mono (by decide))))) (pss_one (ps_raise bodyB rfl T.ex.c_NoText (pa_const pe_str pa_nil))) pss_nil) (pss_cons (ps_if (pt_cmpR op_gt (pe_cB C_count_of (hr.mono (by decide)) pass01 (pa_name (pv 2) pa_nil)) (pe_glob (v := .int 60) rfl T.ex.m_MOST_PIECES ⟨_, rfl⟩) (nomark _)) (pss_one (ps_raise bodyB rfl T.ex.c_NoText (pa_const pe_str pa_nil))) pss_nil) (pss_one (ps_ret (pe_cB C_told_out (hr.mono (by decide)) pass01 (pa_name (pv 2) pa_nil)))))))))), ?_⟩
  refine ⟨_, rfl, _, _, _, _, rfl, .str _, isStr_b _, _, rfl, iteF ?_⟩
  by_cases hne : ps = []
  · subst hne
    refine ⟨_, rfl, rfl, _, rfl, iteT' (by rw [decS]; exact decide_eq_true (by decide +kernel)) ⟨(by show 0 ≤ sizeLine; decide), fun l hl => ?_⟩⟩
    exact q (by decide) l [] _ (same_new hl _) hl upd_same .nil
  have tn := textL_ne wp hne
  refine ⟨_, rfl, rfl, _, rfl, iteF' (by rw [decS]; exact decide_eq_false tn) ?_⟩
  have sl := split_len (textL 5 ps)
  refine ⟨_, rfl, textL 5 ps, rfl, Nat.le_trans (Nat.add_le_add_right tl 2) (by decide), by omega, (fun w hw => by have := sl.2 w hw; omega), fun wl H1 s1 nwl hwl => fun a dx na ndx ne => ?_⟩
  rw [words_textL wp hne] at hwl
  have w1 : Same H1 (upd (upd H1 dx (.own a)) a (.ins ad.Reader dx [])) := fun b o e => by rw [upd_ne (ne_of_none e na), upd_ne (ne_of_none e ndx)]; exact e
  refine ⟨a, dx, wl, rfl, upd_same, ⟨rfl, ?_⟩⟩
  have nwa : wl ≠ a := fun e => by rw [← e, hwl] at na; cases na
  have jl := jn_len_le wp hne
  have rd : RdAt ad.Reader a dx wl (jn (toksP 5) ps) 0 (upd (upd (upd H1 dx (.own a)) a (.ins ad.Reader dx [])) a (RdO ad.Reader dx wl 0)) := ⟨upd_same, by rw [upd_ne nwa]; exact w1 _ _ hwl, by omega⟩
  have sA : Same H1 (upd (upd (upd H1 dx (.own a)) a (.ins ad.Reader dx [])) a (RdO ad.Reader dx wl 0)) := fun b o e => by rw [upd_ne (ne_of_none e na)]; exact w1 _ _ e
  generalize upd (upd (upd H1 dx (.own a)) a (.ins ad.Reader dx [])) a (RdO ad.Reader dx wl 0) = H2 at rd sA ⊢
  refine ⟨_, rfl, a, dx, wl, jn (toksP 5) ps, 0, ps, 0, rfl, by decide, rd, (fun j t ht => by rw [Nat.zero_add]; exact ht), ?_, hne, l4, wp, fun l xs H3 sd nl rd3 hl hxs => ?_⟩
  · rw [Nat.zero_add, List.getElem?_eq_none (Nat.le_refl _)]
    exact fun e => nomatch e
  rw [Nat.zero_add] at rd3
  refine ⟨_, rfl, a, _, dx, _, _, _, rfl, rd3.r, rfl, mc_is_done T, a, dx, wl, _, _, rfl, rd3, _, rfl, iteF' (by rw [decide_eq_true rfl]; rfl) ?_⟩
  have na0 : H a = none := s1.free na
  have s03 : Same H H3 := Lib.SD.same (s1.trans sA) na0 sd
  refine ⟨_, rfl, l, xs, ps, _, rfl, hl, hxs, l4, wp, by decide, _, _, rfl, rfl, _, rfl, ?_⟩
  by_cases c60 : cntL 5 ps ≤ 60
  · refine iteF' (decide_eq_false (by omega)) ?_
    refine ⟨_, rfl, l, xs, ps, _, rfl, hl, hxs, l4, wp, c60, fun l2 xs2 H4 s4 nl2 hl2 hxs2 => ?_⟩
    exact q c60 l2 xs2 H4 (s03.trans s4) (s03.free nl2) hl2 hxs2
  · refine iteT' (decide_eq_true (by omega)) ?_
    exact ⟨(by show 1 ≤ sizeLine; decide), qx (by omega) _ s03⟩
end
end K72
namespace K72
open PySem L2 Lib Fr Op Tx PySem.NumText
seal PE PT PW PA PS PSs PG PGs PI PO PIfs PJ
section
variable {P : Program} {w : World} {K : PySem.W.Frag} {mg : PySem.Str → Option Value} {base : Heap} {ad : Adr} {c : Bool}
theorem sum_le {ts : List PySem.Str} {B : Nat} (h : ∀ t ∈ ts, t.length ≤ B) : (ts.map (·.length)).sum ≤ ts.length * B := by
  induction ts with
  | nil => exact Nat.zero_le _
  | cons t ts ih =>
    rw [List.map_cons, List.sum_cons, List.length_cons, Nat.succ_mul]
    have := h t List.mem_cons_self
    have := ih (fun x hx => h x (List.mem_cons_of_mem _ hx))
    omega
theorem textP_len {p : Pc} (h : PShort p) : (textP p).length ≤ 200 := by
  unfold textP
  rw [joinT]
  have h1 := join_le (PySem.Str.ofString " ") (toks p) 50 (fun t ht => Lib.tok1_le p h t ht)
  have h2 := toks_len p
  have h3 : (PySem.Str.ofString " ").length = 1 := by decide +kernel
  have h4 : (toks p).length * (50 + (PySem.Str.ofString " ").length) ≤ 3 * 51 := Nat.mul_le_mul h2.1 (by omega)
  omega
theorem bd_pc {p : Pc} (h : PShort p) : p.bd 50 := by
  cases p with
  | gap q => exact bd_short (h.2 q (by simp [fracs]))
  | glass q => exact bd_short (h.2 q (by simp [fracs]))
  | stop lo hi => exact ⟨bd_short (h.2 lo (by simp [fracs])), bd_short (h.2 hi (by simp [fracs]))⟩
theorem g_show_piece (T : Txt K mg ad) : CalB P w K mg base true 2 "show_piece" ["piece"] (spShowP K) := by
  have C_show_ratio := g_show_ratio (P := P) (w := w) (base := base) T
  refine T.t_show_piece.calN sc_show_piece (fun _ _ _ _ _ _ => by1 fun _ => rfl) (fun vs H Q E h => ?_) (fun f cdv A outer s H vs Q E hr h => ?_)
  · obtain ⟨_, _, rfl, _⟩ := h; rfl
  obtain ⟨v, p, rfl, hv, ps, q⟩ := h
  refine ⟨_, (pss_one (ps_ret (pe_bm PySem.F.plainAttrs_str PySem.F.slot_str_join PySem.F.type_str_join mt_join pe_str (pa_bin (pe_op op_cat (pe_lst (pa_sub (pe_ix ix_tup (pv 0) pe_int (fun _ _ => rfl)) pa_nil)) (pe_comp ["part"] [none] rfl (pi_tup (pe_slice sl_tup (pv 0) (po_some pe_int) po_none)) (fun _ _ _ _ _ => (pg_name (i := 0) (show List.Nodup [("part" : Str)] by decide) rfl (by first | exact Or.inl rfl | exact Or.inr rfl))) (fun _ _ _ _ _ => pifs_nil) (fun _ _ _ _ _ => (pe_cB C_show_ratio (hr.mono (by decide)) pass01 (pa_name (pv 0) pa_nil))) (cap_nil (by decide) (by decide)) (by decide) rfl (by decide) rfl (nocap rfl))) pa_nil)))), ?_⟩
  obtain ⟨t, xr, rfl, ht, hxr⟩ : ∃ (t : Addr) (xr : List V), v = .ref t ∧ SqT K H t (.str (wd p) :: xr) ∧ DVs K H xr ((fracs p).map frD) := by
    cases p with
    | gap g =>
      obtain ⟨t, y0, y1, rfl, ht, g0, g1⟩ := DV.t2 (show DV K H v (.tuple [.str "gap", frD g]) from hv)
      obtain rfl := DV.str_of g0
      exact ⟨t, _, rfl, ht, .cons g1 .nil⟩
    | glass g =>
      obtain ⟨t, y0, y1, rfl, ht, g0, g1⟩ := DV.t2 (show DV K H v (.tuple [.str "glass", frD g]) from hv)
      obtain rfl := DV.str_of g0
      exact ⟨t, _, rfl, ht, .cons g1 .nil⟩
    | stop g h =>
      obtain ⟨t, y0, y1, y2, rfl, ht, g0, g1, g2⟩ := DV.t3 (show DV K H v (.tuple [.str "stop", frD g, frD h]) from hv)
      obtain rfl := DV.str_of g0
      exact ⟨t, _, rfl, ht, .cons g1 (.cons g2 .nil)⟩
  have hl : xr.length = (fracs p).length := by have := hxr.len; rw [List.length_map] at this; exact this
  have fl : 1 ≤ (fracs p).length ∧ (fracs p).length ≤ 2 := by cases p <;> exact ⟨by simp [fracs], by simp [fracs]⟩
  refine ⟨rfl, _, rfl, t, _, _, _, rfl, rfl, ht, atI0, (by show 1 ≤ sizeLine; decide), fun p1 hp1 => ?_⟩
  have u1 := same_new hp1 (.lst [.str (wd p)])
  have m1 : upd H p1 (.lst [.str (wd p)]) p1 = some (.lst [.str (wd p)]) := upd_same
  generalize upd H p1 (.lst [.str (wd p)]) = H1 at u1 m1 ⊢
  refine ⟨_, rfl, _, rfl, t, _, rfl, ht.keep u1, (fun e => by rw [sIx1] at e; simp only [List.length_cons] at e; omega), fun p2 hp2 => ⟨p2, rfl, ⟨_, SqT.of upd_same⟩, ?_⟩⟩
  rw [cut1]
  have u2 := same_new hp2 (.tup ((V.str (wd p) :: xr).drop 1))
  have m2 : upd H1 p2 (.tup ((V.str (wd p) :: xr).drop 1)) p2 = some (.tup xr) := upd_same
  have m12 := u2 _ _ m1
  have s2 := u1.trans u2
  generalize upd H1 p2 (.tup ((V.str (wd p) :: xr).drop 1)) = H2 at u2 m2 m12 s2 ⊢
  refine comp_tup0 (K := K) (a := p2) (xs := xr) (fun i σ ys H' => ∃ c0, σ = [c0] ∧ ys = (((fracs p).take i).map shS).map V.str ∧ H' = H2) ⟨_, rfl, rfl, rfl⟩ ?_ ?_ ?_
  · rintro i σ ys H' hi ⟨c0, rfl, rfl, rfl⟩
    refine ⟨?_, SqT.of m2⟩
    rw [List.length_map, List.length_map, List.length_take]
    exact Nat.le_of_lt (small1000 (by omega))
  · rintro i x σ ys H' hi ⟨c0, rfl, rfl, rfl⟩
    obtain ⟨d, hd, hx⟩ := hxr.get hi
    rw [List.getElem?_map] at hd
    cases e : (fracs p)[i]? with
    | none => rw [e] at hd; cases hd
    | some g =>
      rw [e] at hd
      cases hd
      refine ⟨_, rfl, x, g, rfl, hx.keep s2, ps.2 g (List.mem_of_getElem? e), nx (lt_of_get hi) ⟨_, rfl, ?_, rfl⟩⟩
      rw [List.take_add_one, e, List.map_append, List.map_append]
      rfl
  · rintro σ ys H' p3 ⟨c0, rfl, rfl, rfl⟩ hp3
    rw [hl, List.take_length]
    have u3 := same_new hp3 (.lst (((fracs p).map shS).map V.str))
    have m3 : upd H' p3 (.lst (((fracs p).map shS).map V.str)) p3 = some (.lst (((fracs p).map shS).map V.str)) := upd_same
    have m13 := u3 _ _ m12
    have s3 := s2.trans u3
    generalize upd H' p3 (.lst (((fracs p).map shS).map V.str)) = H3 at u3 m3 m13 s3 ⊢
    refine ⟨p1, p3, _, _, rfl, rfl, m13, m3, Nat.le_of_lt (small1000 (by rw [List.length_map, List.length_map]; simp only [List.length_cons, List.length_nil]; omega)), fun p4 hp4 => ?_⟩
    have e4 : ([.str (wd p)] ++ ((fracs p).map shS).map V.str : List V) = (toks p).map V.str := rfl
    have jo : JoinOk (PySem.Str.ofString " ") (toks p) = true := by
      refine PyProof.Rows.joinOk_of_weight ?_ (by decide +kernel)
      have h1 : ∀ t ∈ toks p, t.length ≤ 50 := fun t ht => Lib.tok1_le p ps t ht
      have h2 := toks_len p
      have h3 : ((toks p).map (·.length)).sum ≤ (toks p).length * 50 := sum_le h1
      have h4 : (toks p).length * 50 ≤ 3 * 50 := Nat.mul_le_mul_right _ h2.1
      omega
    exact ⟨_, p4, toks p, rfl, rfl, by rw [upd_same, e4], jo, q _ (s3.trans (same_new hp4 _))⟩
theorem g_show_bench (T : Txt K mg ad) : CalB P w K mg base true 5 "show_bench" ["bench"] (spShowB K) := by
  have C_look_at := c_look_at (P := P) (w := w) (base := base) T
  have C_show_piece := g_show_piece (P := P) (w := w) (base := base) T
  refine T.t_show_bench.calN sc_show_bench (fun _ _ _ _ _ _ => by1 fun _ => rfl) (fun vs H Q E h => ?_) (fun f cdv A outer s H vs Q E hr h => ?_)
  · obtain ⟨_, _, rfl, _⟩ := h; rfl
  obtain ⟨v, ps, rfl, hv, l60, sh, q⟩ := h
  refine ⟨_, (pss_cons (ps_expr (pe_cB C_look_at (hr.mono (by decide)) pass01 (pa_name (pv 0) pa_nil))) (pss_one (ps_ret (pe_bm PySem.F.plainAttrs_str PySem.F.slot_str_join PySem.F.type_str_join mt_join pe_str (pa_cons (pe_comp ["piece"] [none] rfl (pi_list (pv 0)) (fun _ _ _ _ _ => (pg_name (i := 0) (show List.Nodup [("piece" : Str)] by decide) rfl (by first | exact Or.inl rfl | exact Or.inr rfl))) (fun _ _ _ _ _ => pifs_nil) (fun _ _ _ _ _ => (pe_cB C_show_piece (hr.mono (by decide)) pass01 (pa_name (pv 0) pa_nil))) (cap_nil (by decide) (by decide)) (by decide) rfl (by decide) rfl (nocap rfl)) pa_nil))))), ?_⟩
  refine ⟨_, rfl, v, ps, 50, rfl, hv, ⟨l60, fun p hp => (sh p hp).1, fun p hp => bd_pc (sh p hp)⟩, by decide, fun H1 s1 => ?_⟩
  obtain ⟨b, xs, rfl, hb, hxs⟩ := hv.lst_of
  have hl : xs.length = ps.length := by have := hxs.len; rw [List.length_map] at this; exact this
  refine ⟨rfl, _, rfl, b, rfl, ⟨_, hb.keep s1⟩, ?_⟩
  refine comp_list0 (K := K) (a := b) (xs := xs) (fun i σ ys H' => ∃ c0, σ = [c0] ∧ ys = ((ps.take i).map textP).map V.str ∧ Same H H') ⟨_, rfl, rfl, s1⟩ ?_ ?_ ?_
  · rintro i σ ys H' hi ⟨c0, rfl, rfl, s2⟩
    refine ⟨?_, hb.keep s2⟩
    rw [List.length_map, List.length_map, List.length_take]
    exact Nat.le_of_lt (small1000 (by omega))
  · rintro i x σ ys H' hi ⟨c0, rfl, rfl, s2⟩
    obtain ⟨d, hd, hx⟩ := hxs.get hi
    obtain ⟨pc, hpc, rfl⟩ := get_map_pc hd
    refine ⟨_, rfl, x, pc, rfl, hx.keep s2, sh pc (List.mem_of_getElem? hpc), fun H3 s3 => nx (lt_of_get hi) ⟨_, rfl, ?_, s2.trans s3⟩⟩
    rw [List.take_add_one, hpc, List.map_append, List.map_append]
    rfl
  · rintro σ ys H' p ⟨c0, rfl, rfl, s2⟩ hp
    rw [hl, List.take_length]
    have jo : JoinOk (PySem.Str.ofString "; ") (ps.map textP) = true := by
      refine PyProof.Rows.joinOk_of_weight ?_ (by decide +kernel)
      have h1 : ∀ t ∈ ps.map textP, t.length ≤ 200 := fun t ht => by
        obtain ⟨p, hp, rfl⟩ := List.mem_map.mp ht
        exact textP_len (sh p hp)
      have h3 := sum_le h1
      rw [List.length_map] at h3 ⊢
      have h4 : ps.length * 200 ≤ 60 * 200 := Nat.mul_le_mul_right _ l60
      omega
    exact ⟨_, p, ps.map textP, rfl, rfl, upd_same, jo, q _ (s2.trans (same_new hp _))⟩
end
end K72
namespace K72
open PySem L2 Lib Fr Op Tx
seal PE PT PW PA PS PSs PG PGs PI PO PIfs
section
variable {P : Program} {w : World} {K : PySem.W.Frag} {mg : Str → Option Value} {base : Heap} {ad : Adr} {c : Bool}
theorem c__law_drawn (T : Txt K mg ad) : CalB P w K mg base true 1 "_law_drawn" ["_law_script", "_law_start"] (spDrawn K) := by
  refine T.t__law_drawn.calN sc__law_drawn (fun _ _ _ _ _ _ => by2 fun _ _ => rfl) (fun vs H Q E h => ?_) (fun f cdv A outer s H vs Q E hr h => ?_)
  · obtain ⟨_, _, _, rfl, _⟩ := h; rfl
  obtain ⟨a, ns, st, rfl, hS, q⟩ := h
  refine ⟨_, (pss_one (ps_ret (pe_lst (pa_name (pv 1) (pa_bin (pe_op op_cat (pe_slice sl_list (pv 0) po_none (po_some pe_int)) (pe_lst (pa_name (pv 1) pa_nil))) (pa_const pe_int pa_nil)))))), ?_⟩
  have z1 := cutV_le0 (ns.map V.int) 60
  change (cutV (ns.map V.int) none (some 60)).length ≤ _ at z1
  have i1 := cut_ints ns none (some 60)
  refine ⟨_, rfl, _, rfl, _, rfl, a, _, rfl, hS, fun p hp => ?_⟩
  generalize cutV (ns.map V.int) none (some 60) = L1 at z1 i1 ⊢
  have u1 := same_new hp (.lst L1)
  refine ⟨_, rfl, (by show 1 ≤ sizeLine; decide), fun p2 hp2 => ?_⟩
  have u2 := same_new hp2 (.lst [.int st])
  refine ⟨p, p2, _, _, rfl, rfl, u2 _ _ upd_same, upd_same, Nat.le_of_lt (small1000 (by simp only [List.length_cons, List.length_nil]; omega)), fun p3 hp3 => ?_⟩
  have u3 := same_new hp3 (.lst (L1 ++ [.int st]))
  refine ⟨(by show 3 ≤ sizeLine; decide), fun p4 hp4 => ?_⟩
  have u4 := same_new hp4 (.lst [.int st, .ref p3, .int 0])
  have u14 := u1.trans (u2.trans (u3.trans u4))
  refine q p4 p3 (L1 ++ [.int st]) _ u14 ((u1.trans (u2.trans u3)).free hp4) ⟨⟨st, 0, by decide, upd_same⟩, u4 _ _ upd_same, fun x hx => ?_, by rw [List.length_append]; simp, by rw [List.length_append]; simp only [List.length_cons, List.length_nil]; omega⟩
  rcases List.mem_append.mp hx with h | h
  · exact i1 x h
  · exact ⟨st, List.mem_singleton.mp h⟩
theorem c__law_draw (T : Txt K mg ad) : CalB P w K mg base true 1 "_law_draw" ["_law_drawn_here", "_law_many"] spDraw := by
  refine T.t__law_draw.calN sc__law_draw (fun _ _ _ _ _ _ => by2 fun _ _ => rfl) (fun vs H Q E h => ?_) (fun f cdv A outer s H vs Q E hr h => ?_)
  · obtain ⟨_, _, _, _, rfl, _⟩ := h; rfl
  obtain ⟨d, c, L, m, rfl, hd, m0, q⟩ := h
  obtain ⟨a, n, n0, hdd⟩ := hd.d
  have ncd := hd.ne
  refine ⟨_, (pss_cons (ps_set (i := 2) sc__law_draw.nd rfl (Or.inl rfl) (pe_ix ix_list (pv 0) pe_int (fun _ _ => rfl))) (pss_cons (ps_asg (pe_op op_add (pe_ix ix_list (pv 0) pe_int (fun _ _ => rfl)) pe_int) (pg_sub (pv 0) pe_int set_list)) (pss_cons (ps_set (i := 3) sc__law_draw.nd rfl (Or.inl rfl) (pe_op op_add (pe_op op_mul (pe_ix ix_list (pv 0) pe_int (fun _ _ => rfl)) pe_int) (pe_op op_mod (pe_ix ix_list (pv 2) (pe_op op_mod (pe_ix ix_list (pv 0) pe_int (fun _ _ => rfl)) (pe_callB call_len_seq rfl T.len bt_len (pa_name (pv 2) pa_nil))) (fun _ _ => rfl)) pe_int))) (pss_cons (ps_asg (pe_op op_mod (pe_op op_add (pv 3) (pe_ix ix_list (pv 0) pe_int (fun _ _ => rfl))) pe_int) (pg_sub (pv 0) pe_int set_list)) (pss_one (ps_ret (pe_op op_mod (pe_op op_fdiv (pe_ix ix_list (pv 0) pe_int (fun _ _ => rfl)) pe_int) (pv 1)))))))), ?_⟩
  refine ⟨_, rfl, d, _, _, _, rfl, rfl, SqL.of hdd, rfl, ?_⟩
  refine ⟨_, rfl, d, _, _, _, rfl, rfl, SqL.of hdd, rfl, _, _, rfl, rfl, _, rfl, d, _, _, 2, rfl, rfl, hdd, rfl, ?_⟩
  have h1 : upd H d (.lst [.int a, .ref c, .int (n + 1)]) d = some (.lst [.int a, .ref c, .int (n + 1)]) := upd_same
  have hc1 : upd H d (.lst [.int a, .ref c, .int (n + 1)]) c = some (.lst L) := by rw [upd_ne ncd]; exact hd.c
  have e1 : upd H d (.lst ([V.int a, .ref c, .int n].set 2 (.int (n + 1)))) = upd H d (.lst [.int a, .ref c, .int (n + 1)]) := rfl
  have s1 : SD d H (upd H d (.lst [.int a, .ref c, .int (n + 1)])) := sd_upd
  refine ⟨_, rfl, d, _, _, _, rfl, rfl, SqL.of h1, rfl, _, _, rfl, rfl, .inr ⟨by decide, by decide⟩, ?_⟩
  have lp : (0 : Int) < ((L.length : Nat) : Int) := by have := hd.l; omega
  have m1 := Int.emod_nonneg (n + 1) (show ((L.length : Nat) : Int) ≠ 0 by omega)
  have m2 := Int.emod_lt_of_pos (n + 1) lp
  obtain ⟨v, hv, hm⟩ := atI_in (xs := L) m1 m2
  obtain ⟨z, rfl⟩ := hd.i v hm
  refine ⟨_, rfl, _, rfl, d, _, _, _, rfl, rfl, SqL.of h1, rfl, _, rfl, c, _, rfl, .inl (SqL.of hc1), _, _, rfl, rfl, lp, c, _, _, _, rfl, rfl, SqL.of hc1, hv, ?_⟩
  refine ⟨_, _, rfl, rfl, (by show (0 : Int) < 2147483647; decide), _, _, rfl, rfl, ?_⟩
  refine ⟨_, rfl, _, rfl, d, _, _, _, rfl, rfl, SqL.of h1, rfl, _, _, rfl, rfl, _, _, rfl, rfl, (by show (0 : Int) < 2147483629; decide), _, rfl, d, _, _, 0, rfl, rfl, h1, rfl, ?_⟩
  have h2 : ∀ x : Int, DrA (upd (upd H d (.lst [.int a, .ref c, .int (n + 1)])) d (.lst [.int x, .ref c, .int (n + 1)])) d c L := fun x => ⟨⟨x, n + 1, by omega, upd_same⟩, by rw [upd_ne ncd]; exact hc1, hd.i, hd.l, hd.m⟩
  refine ⟨_, rfl, d, _, _, _, rfl, rfl, SqL.of upd_same, rfl, _, _, rfl, rfl, ⟨by decide, by decide⟩, _, rfl, _, _, rfl, rfl, m0, ?_⟩
  exact q _ _ (Int.emod_nonneg _ (by omega)) (Int.emod_lt_of_pos _ m0) (h2 _) (s1.trans sd_upd)
theorem c__law_low (T : Txt K mg ad) : CalB P w K mg base true 1 "_law_low" ["_law_top", "_law_bottom"] spLowP := by
  refine T.t__law_low.calN sc__law_low (fun _ _ _ _ _ _ => by2 fun _ _ => rfl) (fun vs H Q E h => ?_) (fun f cdv A outer s H vs Q E hr h => ?_)
  · obtain ⟨a, b, rfl, _⟩ := h; rfl
  obtain ⟨a, b, rfl, bp, bs, q⟩ := h
  have b0 : b ≠ 0 := by omega
  refine ⟨_, (pss_cons (ps_set (i := 2) sc__law_low.nd rfl (Or.inl rfl) (pe_callB call_abs rfl T.abs bt_abs (pa_name (pv 0) pa_nil))) (pss_cons (ps_set (i := 3) sc__law_low.nd rfl (Or.inl rfl) (pv 1)) (pss_cons (ps_while PassesOwn.never (pt_cmpR op_gt (pv 3) pe_int (nomark _)) (pss_one (ps_par (i := 2) (j := 3) rfl sc__law_low.nd rfl rfl (by decide) rfl rfl (pa_name (pv 3) (pa_bin (pe_op op_mod (pv 2) (pv 3)) pa_nil)) rfl))) (pss_one (ps_ret (pe_tup (pa_bin (pe_op op_fdivW (pv 0) (pv 2)) (pa_bin (pe_op op_fdivW (pv 1) (pv 2)) pa_nil)))))))), ?_⟩
  refine ⟨_, rfl, _, rfl, _, rfl, ?_⟩
  have ea := Fr.absE a
  have eb : b = (b.natAbs : Int) := by omega
  refine ⟨fun k σ H' => H = H' ∧ ∃ (m : Nat), σ = [some (.int a), some (.int b), some (.int m), some (.int k)] ∧ Nat.gcd m k = Nat.gcd a.natAbs b.natAbs, ⟨b.natAbs, rfl, a.natAbs, by rw [← ea, ← eb]; rfl, rfl⟩, ?_⟩
  rintro n _ _ ⟨rfl, m, rfl, e⟩
  refine ⟨_, rfl, _, _, rfl, rfl, _, rfl, ?_⟩
  refine ite2 (fun c => ?_) (fun c => ?_)
  · have hn : n ≠ 0 := by
      intro z
      subst z
      simp at c
    have h1 : (m : Int) % (n : Int) = ((m % n : Nat) : Int) := (Int.natCast_emod m n).symm
    refine ⟨fun σ' H' => H = H' ∧ σ' = [some (.int a), some (.int b), some (.int n), some (.int ((m : Int) % (n : Int)))], ?_, ?_⟩
    · rintro _ _ ⟨rfl, rfl⟩
      rw [h1]
      exact ⟨m % n, Nat.mod_lt _ (by omega), rfl, n, rfl, by rw [Fr.gcd_turn, e]⟩
    · exact ⟨_, rfl, _, rfl, _, rfl, _, _, rfl, rfl, (by show (0 : Int) < (n : Int); omega), _, _, rfl, rfl, rfl⟩
  · have hn : n = 0 := by
      by_cases z : n = 0
      · exact z
      · exfalso
        apply c
        exact decide_eq_true (by omega)
    subst hn
    have e2 : (m : Int) = Fr.gcd a b := by
      unfold Fr.gcd
      rw [← e, Nat.gcd_zero_right]
    have gl := Fr.gcd_le (a := a) b0
    have gn := Fr.gcd_nn a b
    have eg : (m : Int) = Fr.sg a b := by
      unfold Fr.sg
      rw [if_neg (by omega), e2]
    have gs : (m : Int).natAbs.log2 < 9000 := by
      have h2 : (m : Int).natAbs < lim := by omega
      exact lim_log h2
    have ne : (m : Int) ≠ 0 := by rw [eg]; exact Fr.sg_ne b0
    refine ⟨_, rfl, _, rfl, _, _, rfl, rfl, ⟨ne, gs⟩, _, rfl, _, rfl, _, _, rfl, rfl, ⟨ne, gs⟩, (by show 2 ≤ sizeLine; decide), fun p hp => ?_⟩
    rw [eg]
    exact q p hp
theorem c__law_under (T : Txt K mg ad) : CalB P w K mg base true 1 "_law_under" ["_law_one", "_law_other"] (PR K RLess) := by
  refine T.t__law_under.calN sc__law_under (fun _ _ _ _ _ _ => by2 fun _ _ => rfl) (fun vs H Q E h => ?_) (fun f cdv A outer s H vs Q E hr h => ?_)
  · obtain ⟨_, _, dv, ⟨_, _, rfl, _⟩, _⟩ := h; exact dv.len
  obtain ⟨_, _, dv, ⟨p, q, rfl, sp, sq, rfl⟩, k⟩ := h
  obtain ⟨_, _, rfl, hx, hy⟩ := dv.two
  obtain ⟨a, rfl, ha⟩ := hx.fr
  obtain ⟨b, rfl, hb⟩ := hy.fr
  refine ⟨_, (pss_one (ps_ret (pe_cmpR op_lt (pe_op op_mulW (pe_ix ix_tup (pv 0) pe_int (fun _ _ => rfl)) (pe_ix ix_tup (pv 1) pe_int (fun _ _ => rfl))) (pe_op op_mulW (pe_ix ix_tup (pv 1) pe_int (fun _ _ => rfl)) (pe_ix ix_tup (pv 0) pe_int (fun _ _ => rfl))) (nomark _)))), ?_⟩
  refine ⟨_, rfl, a, _, _, _, rfl, rfl, ha, rfl, _, rfl, b, _, _, _, rfl, rfl, hb, rfl, _, _, rfl, rfl, mulW sp.n sq.dn, ?_⟩
  refine ⟨_, rfl, b, _, _, _, rfl, rfl, hb, rfl, _, rfl, a, _, _, _, rfl, rfl, ha, rfl, _, _, rfl, rfl, mulW sq.n sp.dn, _, _, rfl, rfl, ?_⟩
  have e : decide (p.num * (q.den : Int) < q.num * (p.den : Int)) = decide (p < q) := decide_eq_decide.mpr (Fr.lt_rat p q)
  show Q (.bl (decide (p.num * (q.den : Int) < q.num * (p.den : Int)))) H
  rw [e]
  exact k _ _ (Same.refl _) (.bl _)
theorem short_of {t b : Int} (b0 : b ≠ 0) (ht : t.natAbs < 10 ^ 15) (hb : b.natAbs < 10 ^ 15) : Short (Rat.divInt t b) := by
  obtain ⟨h1, h2⟩ := num_den_le b0 (rfl : Rat.divInt t b = Rat.divInt t b)
  exact ⟨by omega, by omega⟩
theorem bd12 {t b : Int} (b0 : b ≠ 0) (ht : t.natAbs < 2000) (hb : b.natAbs < 2000) : Bd 12 (Rat.divInt t b) := by
  exact Bd.of b0 (Nat.lt_trans ht (by decide)) (Nat.lt_trans hb (by decide))
def spDPartH (K : PySem.W.Frag) : Sp := fun vs H Q _ => ∃ (d c : Addr) (L : List V) (far : Bool), vs = [.ref d, .bl far] ∧ DrA H d c L ∧ ∀ v H' q, DrA H' d c L → SD d H H' → DV K H' v (frD q) → (Short q ∧ (far = false → Bd 12 q)) → Q v H'
def spDPieceH (K : PySem.W.Frag) : Sp := fun vs H Q _ => ∃ (d c : Addr) (L : List V) (far : Bool), vs = [.ref d, .bl far] ∧ DrA H d c L ∧ ∀ v H' p, DrA H' d c L → SD d H H' → DV K H' v (pcD p) → (PShort p ∧ (far = false → p.bd 12)) → Q v H'
theorem sm_short {q : Rat} (h : Short q) : Bd 50 q := by
  have p1 : (10 : Nat) ^ 15 ≤ 2 ^ 50 := by decide
  exact ⟨Nat.lt_of_lt_of_le h.n p1, Nat.lt_of_lt_of_le h.d p1⟩
theorem c__law_part (T : Txt K mg ad) : CalB P w K mg base true 2 "_law_part" ["_law_drawn_here", "_law_far"] (spDPartH K) := by
  have C__law_draw := c__law_draw (P := P) (w := w) (base := base) T
  have C__law_low := c__law_low (P := P) (w := w) (base := base) T
  refine T.t__law_part.calN sc__law_part (fun _ _ _ _ _ _ => by2 fun _ _ => rfl) (fun vs H Q E h => ?_) (fun f cdv A outer s H vs Q E hr h => ?_)
  · obtain ⟨_, _, _, _, rfl, _⟩ := h; rfl
  obtain ⟨d, c, L, far, rfl, hd, q⟩ := h
  have p15 : CPow 10 15 := ⟨by decide, by decide, by decide⟩
  have t15 : (10 : Int) ^ (15 : Int).toNat = 1000000000000000 := by decide
  have p50 : (2 : Nat) ^ 50 = 1125899906842624 := by decide
  have p15n : (10 : Nat) ^ 15 = 1000000000000000 := by decide
  obtain ⟨tR, hR, kR⟩ : ∃ t, PSs (cxB true P w K mg base ["_law_drawn_here", "_law_far", "_law_top", "_law_bottom"] "_law_part" (defScope s__law_part) f cdv A outer s H E).nox ((defBody s__law_part).drop 1) t ∧ ∀ (D : Ends) (c2 c3 : Option V) (H1 : Hp), DrA H1 d c L → SD d H H1 → (∀ v H' q, DrA H' d c L → SD d H H' → DV K H' v (frD q) → (Short q ∧ (far = false → Bd 12 q)) → D.rt v H') → t D [some (.ref d), some (.bl far), c2, c3] H1 := by
    refine ⟨_, (pss_cons (ps_set (i := 2) sc__law_part.nd rfl (Or.inl rfl) (pe_cB C__law_draw (hr.mono (by decide)) pass01 (pa_name (pv 0) (pa_sub (pe_ix ix_list (pe_lst (pa_const pe_int (pa_const pe_int pa_nil))) (pe_callTy call_int1 rfl T.int bt_int (pa_cmp (pe_cmpR op_eq (pe_cB C__law_draw (hr.mono (by decide)) pass01 (pa_name (pv 0) (pa_const pe_int pa_nil))) pe_int (nomark _)) pa_nil)) (fun _ _ => rfl)) pa_nil)))) (pss_cons (ps_set (i := 3) sc__law_part.nd rfl (Or.inl rfl) (pe_op op_add pe_int (pe_ix ix_list (pe_lst (pa_const pe_int (pa_const pe_int (pa_call (pe_cB C__law_draw (hr.mono (by decide)) pass01 (pa_name (pv 0) (pa_const pe_int pa_nil))) (pa_call (pe_cB C__law_draw (hr.mono (by decide)) pass01 (pa_name (pv 0) (pa_const pe_int pa_nil))) pa_nil))))) (pe_cB C__law_draw (hr.mono (by decide)) pass01 (pa_name (pv 0) (pa_const pe_int pa_nil))) (fun _ _ => rfl)))) (pss_cons (ps_if (pt_cmpR op_eq (pe_cB C__law_draw (hr.mono (by decide)) pass01 (pa_name (pv 0) (pa_const pe_int pa_nil))) pe_int (nomark _)) (pss_one (ps_set (i := 2) sc__law_part.nd rfl (Or.inl rfl) (pe_op op_sub pe_int (pv 2)))) pss_nil) (pss_one (ps_ret (pe_cB C__law_low (hr.mono (by decide)) pass01 (pa_name (pv 2) (pa_name (pv 3) pa_nil)))))))), ?_⟩
    intro D c2 c3 H1 hd1 s1 q
    refine ⟨_, rfl, (by show 2 ≤ sizeLine; decide), fun p hp => ?_⟩
    have u1 := same_new hp (.lst [.int 21, .int 1999])
    obtain ⟨a0, n0, _, hdd⟩ := hd1.d
    have npd : p ≠ d := fun e => by rw [e, hdd] at hp; cases hp
    refine ⟨_, rfl, d, c, L, 9, rfl, hd1.keep u1, by decide, fun x1 H2 x10 x11 hd2 s2 => ?_⟩
    have hp2 := s2 p _ npd upd_same
    refine ⟨rfl, .inr ⟨_, rfl, ?_⟩⟩
    obtain ⟨v, hv, hm⟩ := atI_in (xs := [V.int 21, V.int 1999]) (r := if decide (V.int x1 = V.int 1) then 1 else 0) (by split <;> decide) (by simp only [List.length_cons, List.length_nil]; split <;> decide)
    obtain ⟨m, rfl, m0, m1⟩ : ∃ m : Int, v = .int m ∧ 0 < m ∧ m ≤ 1999 := by
      simp only [List.mem_cons, List.not_mem_nil, or_false] at hm
      rcases hm with rfl | rfl <;> exact ⟨_, rfl, by decide, by decide⟩
    refine ⟨p, _, _, _, rfl, rfl, SqL.of hp2, hv, ?_⟩
    refine ⟨d, c, L, m, rfl, hd2, m0, fun t H3 t0 t1 hd3 s3 => ?_⟩
    have s03 := s1.trans ((u1.sd d).trans (s2.trans s3))
    -- the bottom
    refine ⟨_, rfl, d, c, L, 4, rfl, hd3, by decide, fun y1 H4 y10 y11 hd4 s4 => ?_⟩
    refine ⟨_, rfl, d, c, L, 12, rfl, hd4, by decide, fun y2 H5 y20 y21 hd5 s5 => ?_⟩
    refine ⟨(by show 4 ≤ sizeLine; decide), fun p5 hp5 => ?_⟩
    have u5 := same_new hp5 (.lst [.int 0, .int 0, .int y1, .int y2])
    obtain ⟨a5, n5, _, hdd5⟩ := hd5.d
    have npd5 : p5 ≠ d := fun e => by rw [e, hdd5] at hp5; cases hp5
    refine ⟨_, rfl, d, c, L, 4, rfl, hd5.keep u5, by decide, fun y3 H6 y30 y31 hd6 s6 => ?_⟩
    have hp6 := s6 p5 _ npd5 upd_same
    obtain ⟨v2, hv2, hm2⟩ := atI_in (xs := [V.int 0, V.int 0, V.int y1, V.int y2]) (r := y3) y30 (by simp only [List.length_cons, List.length_nil]; omega)
    obtain ⟨b, rfl, b0, b1⟩ : ∃ b : Int, v2 = .int b ∧ 0 ≤ b ∧ b ≤ 11 := by
      simp only [List.mem_cons, List.not_mem_nil, or_false] at hm2
      rcases hm2 with rfl | rfl | rfl | rfl
      · exact ⟨_, rfl, by decide, by decide⟩
      · exact ⟨_, rfl, by decide, by decide⟩
      · exact ⟨_, rfl, y10, by omega⟩
      · exact ⟨_, rfl, y20, by omega⟩
    refine ⟨p5, _, _, _, rfl, rfl, SqL.of hp6, hv2, _, _, rfl, rfl, ?_⟩
    have s06 := s03.trans (s4.trans (s5.trans ((u5.sd d).trans s6)))
    refine ⟨_, rfl, d, c, L, 2, rfl, hd6, by decide, fun y4 H7 y40 y41 hd7 s7 => ?_⟩
    have s07 := s06.trans s7
    have bl : (1 + b : Int).natAbs < lim := Nat.lt_of_lt_of_le (show (1 + b : Int).natAbs < 2 ^ 50 by omega) (by unfold lim; exact pow_le (by decide))
    refine ⟨rfl, _, rfl, ?_⟩
    have fin : ∀ t' : Int, t'.natAbs < 2000 → ∀ p7, H7 p7 = none → D.rt (.ref p7) (upd H7 p7 (.tup [.int (Fr.lt t' (1 + b)), .int (Fr.lb t' (1 + b))])) := fun t' ht p7 hp7 =>
      q _ _ _ (hd7.keep (same_new hp7 _)) (s07.trans ((same_new hp7 _).sd d)) (dv_low (by omega)) ⟨short_of (by omega) (by omega) (by omega), fun _ => bd12 (by omega) ht (by omega)⟩
    refine ite2 (fun _ => ?_) (fun _ => ?_)
    · refine ⟨_, rfl, _, _, rfl, rfl, ?_⟩
      exact ⟨_, rfl, _, rfl, _, _, rfl, (by show (0 : Int) < 1 + b; omega), bl, fun p7 hp7 => fin (0 - t) (by omega) p7 hp7⟩
    · exact ⟨_, rfl, _, rfl, _, _, rfl, (by show (0 : Int) < 1 + b; omega), bl, fun p7 hp7 => fin t (by omega) p7 hp7⟩
  refine ⟨_, (pss_cons (ps_if (PW.pt (pw_and (pt_val (pv 1)) (pw_and1 (pt_cmpR op_eq (pe_cB C__law_draw (hr.mono (by decide)) pass01 (pa_name (pv 0) (pa_const pe_int pa_nil))) pe_int (nomark _))))) (pss_cons (ps_set (i := 2) sc__law_part.nd rfl (Or.inl rfl) (pe_op op_add (pe_op op_mul (pe_cB C__law_draw (hr.mono (by decide)) pass01 (pa_name (pv 0) (pa_const pe_int pa_nil))) pe_int) (pe_cB C__law_draw (hr.mono (by decide)) pass01 (pa_name (pv 0) (pa_const pe_int pa_nil))))) (pss_cons (ps_set (i := 3) sc__law_part.nd rfl (Or.inl rfl) (pe_op op_add (pe_op op_mul (pe_cB C__law_draw (hr.mono (by decide)) pass01 (pa_name (pv 0) (pa_const pe_int pa_nil))) pe_int) (pe_cB C__law_draw (hr.mono (by decide)) pass01 (pa_name (pv 0) (pa_const pe_int pa_nil))))) (pss_one (ps_ret (pe_cB C__law_low (hr.mono (by decide)) pass01 (pa_bin (pe_op op_add (pe_op op_sub (pe_op op_mod (pv 2) (pe_op op_sub (pe_op op_mul pe_int (pe_op op_pow pe_int pe_int)) pe_int)) (pe_op op_pow pe_int pe_int)) pe_int) (pa_bin (pe_op op_add pe_int (pe_op op_mod (pv 3) (pe_op op_sub (pe_op op_pow pe_int pe_int) pe_int))) pa_nil))))))) pss_nil) hR), ?_⟩
  refine ⟨_, rfl, _, rfl, ?_⟩
  cases far with
  | false => exact iteF (iteF (kR _ _ _ H hd (SD.refl _ _) q))
  | true =>
    refine iteT ?_
    refine ⟨_, rfl, d, c, L, 3, rfl, hd, by decide, fun x1 H1 x10 x11 hd1 s1 => ?_⟩
    refine ⟨rfl, _, rfl, ?_⟩
    refine ite2 (fun _ => ?_) (fun _ => kR _ _ _ H1 hd1 s1 q)
    refine ⟨_, rfl, d, c, L, 33554432, rfl, hd1, by decide, fun a1 H2 a10 a11 hd2 s2 => ?_⟩
    refine ⟨_, _, rfl, rfl, .inr ⟨by decide, by decide⟩, _, rfl, d, c, L, 33554432, rfl, hd2, by decide, fun a2 H3 a20 a21 hd3 s3 => ?_⟩
    refine ⟨_, _, rfl, rfl, ?_⟩
    refine ⟨_, rfl, d, c, L, 33554432, rfl, hd3, by decide, fun a3 H4 a30 a31 hd4 s4 => ?_⟩
    refine ⟨_, _, rfl, rfl, .inr ⟨by decide, by decide⟩, _, rfl, d, c, L, 33554432, rfl, hd4, by decide, fun a4 H5 a40 a41 hd5 s5 => ?_⟩
    refine ⟨_, _, rfl, rfl, ?_⟩
    have s05 := s1.trans (s2.trans (s3.trans (s4.trans s5)))
    refine ⟨_, rfl, _, _, rfl, rfl, p15, _, _, rfl, rfl, .inl ⟨by decide, by decide⟩, _, _, rfl, rfl, _, _, rfl, rfl, (by show (0 : Int) < 2 * 10 ^ (15 : Int).toNat - 1; decide), _, _, rfl, rfl, p15, _, _, rfl, rfl, _, _, rfl, rfl, ?_⟩
    refine ⟨_, rfl, _, _, rfl, rfl, p15, _, _, rfl, rfl, _, _, rfl, rfl, (by show (0 : Int) < 10 ^ (15 : Int).toNat - 1; decide), _, _, rfl, rfl, ?_⟩
    have e0 := Int.emod_nonneg (a1 * 33554432 + a2) (show (2 * 10 ^ (15 : Int).toNat - 1 : Int) ≠ 0 by decide)
    have e1 := Int.emod_lt_of_pos (a1 * 33554432 + a2) (show (0 : Int) < 2 * 10 ^ (15 : Int).toNat - 1 by decide)
    have g0 := Int.emod_nonneg (a3 * 33554432 + a4) (show (10 ^ (15 : Int).toNat - 1 : Int) ≠ 0 by decide)
    have g1 := Int.emod_lt_of_pos (a3 * 33554432 + a4) (show (0 : Int) < 10 ^ (15 : Int).toNat - 1 by decide)
    rw [t15] at e0 e1 g0 g1 ⊢
    refine ⟨_, _, rfl, (by show (0 : Int) < 1 + (a3 * 33554432 + a4) % (1000000000000000 - 1); omega), Nat.lt_of_lt_of_le (show (1 + (a3 * 33554432 + a4) % (1000000000000000 - 1) : Int).natAbs < 2 ^ 50 by omega) (by unfold lim; exact pow_le (by decide)), fun p hp => ?_⟩
    exact q _ _ _ (hd5.keep (same_new hp _)) (s05.trans ((same_new hp _).sd d)) (dv_low (by omega)) ⟨short_of (by omega) (by omega) (by omega), fun e => nomatch e⟩
theorem c__law_piece (T : Txt K mg ad) : CalB P w K mg base true 3 "_law_piece" ["_law_drawn_here", "_law_far"] (spDPieceH K) := by
  have C__law_draw := c__law_draw (P := P) (w := w) (base := base) T
  have C__law_part := c__law_part (P := P) (w := w) (base := base) T
  have C__law_under := c__law_under (P := P) (w := w) (base := base) T
  refine T.t__law_piece.calN sc__law_piece (fun _ _ _ _ _ _ => by2 fun _ _ => rfl) (fun vs H Q E h => ?_) (fun f cdv A outer s H vs Q E hr h => ?_)
  · obtain ⟨_, _, _, _, rfl, _⟩ := h; rfl
  obtain ⟨d, c, L, far, rfl, hd, q⟩ := h
  refine ⟨_, (pss_cons (ps_set (i := 2) sc__law_piece.nd rfl (Or.inl rfl) (pe_cB C__law_draw (hr.mono (by decide)) pass01 (pa_name (pv 0) (pa_const pe_int pa_nil)))) (pss_cons (ps_set (i := 3) sc__law_piece.nd rfl (Or.inl rfl) (pe_cB C__law_part (hr.mono (by decide)) pass01 (pa_name (pv 0) (pa_name (pv 1) pa_nil)))) (pss_cons (ps_if (pt_cmpR op_lt (pv 2) pe_int (nomark _)) (pss_one (ps_ret (pe_tup (pa_const pe_str (pa_name (pv 3) pa_nil))))) pss_nil) (pss_cons (ps_if (pt_cmpR op_lt (pv 2) pe_int (nomark _)) (pss_one (ps_ret (pe_tup (pa_const pe_str (pa_name (pv 3) pa_nil))))) pss_nil) (pss_cons (ps_set (i := 4) sc__law_piece.nd rfl (Or.inl rfl) (pe_cB C__law_part (hr.mono (by decide)) pass01 (pa_name (pv 0) (pa_name (pv 1) pa_nil)))) (pss_cons (ps_if (pt_val (pe_cB C__law_under (hr.mono (by decide)) pass01 (pa_name (pv 4) (pa_name (pv 3) pa_nil)))) (pss_one (ps_par (i := 3) (j := 4) rfl sc__law_piece.nd rfl rfl (by decide) rfl rfl (pa_name (pv 4) (pa_name (pv 3) pa_nil)) rfl)) pss_nil) (pss_one (ps_ret (pe_tup (pa_const pe_str (pa_name (pv 3) (pa_name (pv 4) pa_nil)))))))))))), ?_⟩
  refine ⟨_, rfl, d, c, L, 5, rfl, hd, by decide, fun x1 H1 x10 x11 hd1 s1 => ?_⟩
  refine ⟨_, rfl, _, rfl, d, c, L, far, rfl, hd1, fun v2 H2 q2 hd2 s2 hv2 b2 => ?_⟩
  have s02 := s1.trans s2
  refine ⟨_, rfl, _, _, rfl, rfl, _, rfl, ?_⟩
  refine ite2 (fun _ => ?_) (fun _ => ?_)
  · refine ⟨_, rfl, (by show 2 ≤ sizeLine; decide), fun p hp => ?_⟩
    exact q _ _ (.gap q2) (hd2.keep (same_new hp _)) (s02.trans ((same_new hp _).sd d)) (DV.upd2 hp (.str _) hv2) ⟨⟨trivial, fun x hx => by rw [List.mem_singleton.mp hx]; exact b2.1⟩, fun e => b2.2 e⟩
  refine ⟨_, rfl, _, _, rfl, rfl, _, rfl, ?_⟩
  refine ite2 (fun _ => ?_) (fun _ => ?_)
  · refine ⟨_, rfl, (by show 2 ≤ sizeLine; decide), fun p hp => ?_⟩
    exact q _ _ (.glass q2) (hd2.keep (same_new hp _)) (s02.trans ((same_new hp _).sd d)) (DV.upd2 hp (.str _) hv2) ⟨⟨trivial, fun x hx => by rw [List.mem_singleton.mp hx]; exact b2.1⟩, fun e => b2.2 e⟩
  refine ⟨_, rfl, _, rfl, d, c, L, far, rfl, hd2, fun v3 H3 q3 hd3 s3 hv3 b3 => ?_⟩
  have s03 := s02.trans s3
  have hv23 := hd2.dv s3 hv2
  refine ⟨_, rfl, _, rfl, _, _, .cons hv3 (.cons hv23 .nil), ⟨_, _, rfl, (sm_short b3.1).sm (by decide), (sm_short b2.1).sm (by decide), rfl⟩, fun b H4 s4 hb => ?_⟩
  obtain rfl := hb.bl_of
  refine ⟨_, rfl, ?_⟩
  have hd4 := hd3.keep s4
  have s04 := s03.trans (s4.sd d)
  refine ite2 (fun cc => ?_) (fun cc => ?_)
  · have cc : q3 < q2 := of_decide_eq_true cc
    refine ⟨_, rfl, _, rfl, _, _, rfl, ?_⟩
    refine ⟨_, rfl, _, rfl, (by show 3 ≤ sizeLine; decide), fun p hp => ?_⟩
    exact q _ _ (.stop q3 q2) (hd4.keep (same_new hp _)) (s04.trans ((same_new hp _).sd d)) (DV.upd3 hp (.str _) (hv3.keep s4) (hv23.keep s4)) ⟨⟨show ¬ q2 < q3 by grind, fun x hx => by rcases List.mem_cons.mp hx with rfl | hx; exact b3.1; rw [List.mem_singleton.mp hx]; exact b2.1⟩, fun e => ⟨b3.2 e, b2.2 e⟩⟩
  · have cc : ¬ q3 < q2 := fun z => cc (decide_eq_true z)
    refine ⟨_, rfl, _, rfl, (by show 3 ≤ sizeLine; decide), fun p hp => ?_⟩
    exact q _ _ (.stop q2 q3) (hd4.keep (same_new hp _)) (s04.trans ((same_new hp _).sd d)) (DV.upd3 hp (.str _) (hv23.keep s4) (hv3.keep s4)) ⟨⟨cc, fun x hx => by rcases List.mem_cons.mp hx with rfl | hx; exact b2.1; rw [List.mem_singleton.mp hx]; exact b3.1⟩, fun e => ⟨b2.2 e, b3.2 e⟩⟩
end
end K72
namespace K72
open PySem L2 Lib Fr Op Tx PySem.NumText
seal PE PT PW PA PS PSs PG PGs PI PO PIfs PJ
section
variable {P : Program} {w : World} {K : PySem.W.Frag} {mg : PySem.Str → Option Value} {base : Heap} {ad : Adr} {c : Bool}
theorem figs_at {d : Nat} (h : d < 10) : (PySem.Str.ofString "0123456789").cps[d]? = some (48 + d) := by
  have : ∀ d : Nat, d < 10 → (PySem.Str.ofString "0123456789").cps[d]? = some (48 + d) := by decide
  exact this d h
def spWrI : Sp := fun vs H Q _ => ∃ n : Int, vs = [.int n] ∧ n.natAbs < 10 ^ 15 ∧ ∀ z : PySem.Str, cl z = (if n < 0 then [45] else []) ++ dg n.natAbs → Q (.str z) H
theorem str_nil {y : PySem.Str} (h : y = PySem.Str.ofString "") : cl y = [] := by subst h; rfl
theorem c__law_written (T : Txt K mg ad) : CalB P w K mg base true 1 "_law_written" ["_law_number"] spWrI := by
  refine T.t__law_written.calN sc__law_written (fun _ _ _ _ _ _ => by1 fun _ => rfl) (fun vs H Q E h => ?_) (fun f cdv A outer s H vs Q E hr h => ?_)
  · obtain ⟨_, rfl, _⟩ := h; rfl
  obtain ⟨n, rfl, hn, q⟩ := h
  refine ⟨_, (pss_cons (ps_set (i := 1) sc__law_written.nd rfl (Or.inl rfl) pe_str) (pss_cons (ps_set (i := 2) sc__law_written.nd rfl (Or.inl rfl) (pe_callB call_abs rfl T.abs bt_abs (pa_name (pv 0) pa_nil))) (pss_cons (ps_while PassesOwn.never (PW.pt (pw_or (pt_cmpR op_gt (pv 2) pe_int (nomark _)) (pw_or1 (pt_cmpR op_eq (pv 1) pe_str (nomark _))))) (pss_cons (ps_set (i := 1) sc__law_written.nd rfl (Or.inl rfl) (pe_op op_add_str (pe_item_str pe_str (pe_op op_mod (pv 2) pe_int) (fun _ _ => rfl)) (pv 1))) (pss_one (ps_set (i := 2) sc__law_written.nd rfl (Or.inl rfl) (pe_op op_fdiv (pv 2) pe_int))))) (pss_one (ps_ret (pe_op op_add_str (pe_op op_mul_str pe_str (pe_callTy call_int1 rfl T.int bt_int (pa_cmp (pe_cmpR op_lt (pv 0) pe_int (nomark _)) pa_nil))) (pv 1))))))), ?_⟩
  have dl := (dg_len (m := n.natAbs) (k := 15) (by decide)).mpr hn
  refine ⟨_, rfl, _, rfl, ?_⟩
  refine ⟨fun k σ H' => ∃ (m : Nat) (y : PySem.Str), σ = [some (.int n), some (.str y), some (.int (m : Int))] ∧ H' = H ∧ ((cl y = [] ∧ y = PySem.Str.ofString "" ∧ m = n.natAbs ∧ k = m + 1) ∨ (cl y ≠ [] ∧ dz m ++ cl y = dg n.natAbs ∧ k = m)), ⟨n.natAbs + 1, n.natAbs, PySem.Str.ofString "", by rw [Fr.absE]; rfl, rfl, .inl ⟨rfl, rfl, rfl, rfl⟩⟩, ?_⟩
  rintro k _ H' ⟨m, y, rfl, rfl, hy⟩
  have em : (m : Int) % 10 = ((m % 10 : Nat) : Int) := (Int.natCast_emod m 10).symm
  have ed : (m : Int) / 10 = ((m / 10 : Nat) : Int) := (Int.natCast_ediv m 10).symm
  have lt10 : m % 10 < 10 := Nat.mod_lt _ (by decide)
  have yl : y.length ≤ 15 := by
    rw [← cl_len]
    rcases hy with ⟨e, _⟩ | ⟨_, e, _⟩
    · rw [e]; decide
    · have := congrArg List.length e
      rw [List.length_append] at this
      omega
  have step : (0 < m ∨ cl y = []) → m / 10 < k ∧ cl (PySem.Str.mk #[48 + m % 10] ++ y) ≠ [] ∧ dz (m / 10) ++ cl (PySem.Str.mk #[48 + m % 10] ++ y) = dg n.natAbs := fun hm => by
    have e1 : cl (PySem.Str.mk #[48 + m % 10] ++ y) = [48 + m % 10] ++ cl y := cl_app _ _
    rw [e1]
    refine ⟨?_, by simp, ?_⟩
    · rcases hy with ⟨_, _, _, e⟩ | ⟨e0, _, e⟩
      · omega
      · rcases hm with h | h
        · omega
        · exact absurd h e0
    · rcases hy with ⟨e0, _, e2, e⟩ | ⟨e0, e2, e⟩
      · rw [e0, ← e2]
        by_cases z : m = 0
        · subst z; rfl
        · rw [List.append_nil, ← dz_step (by omega), dz_pos (by omega)]
      · rcases hm with h | h
        · rw [← e2, dz_step h, List.append_assoc]
        · exact absurd h e0
  have tail : ¬ (0 < m ∨ cl y = []) → cl (Txt.mul (PySem.Str.ofString "-") (if decide (n < 0) = true then 1 else 0) ++ y) = (if n < 0 then [45] else []) ++ dg n.natAbs := fun hm => by
    have m0 : m = 0 := by
      by_cases z : m = 0
      · exact z
      · exact absurd (.inl (by omega)) hm
    have hy2 : cl y = dg n.natAbs := by
      rcases hy with ⟨e0, _⟩ | ⟨_, e2, _⟩
      · exact absurd (.inr e0) hm
      · rw [m0] at e2; exact e2
    rw [cl_app, hy2]
    by_cases hneg : n < 0
    · rw [if_pos (decide_eq_true hneg), if_pos hneg]; rfl
    · rw [if_neg (by simpa using hneg), if_neg hneg]; rfl
  have mok : MulOk (PySem.Str.ofString "-") (if decide (n < 0) = true then 1 else 0) := by
    by_cases hneg : n < 0
    · rw [if_pos (decide_eq_true hneg)]; exact ⟨by decide, fun _ h => absurd h (by decide), fun _ h => absurd h (by decide)⟩
    · rw [if_neg (by simpa using hneg)]; exact ⟨by decide, fun h => absurd (by decide) h, fun h => absurd (by decide) h⟩
  have ml : (Txt.mul (PySem.Str.ofString "-") (if decide (n < 0) = true then 1 else 0)).length ≤ 1 := by
    by_cases hneg : n < 0
    · rw [if_pos (decide_eq_true hneg)]; decide
    · rw [if_neg (by simpa using hneg)]; decide
  refine ⟨_, rfl, _, _, rfl, rfl, _, rfl, ?_⟩
  refine ite2 (fun c => ?_) (fun c => ?_)
  · have hm : 0 < m := by
      have : (0 : Int) < (m : Int) := of_decide_eq_true c
      omega
    obtain ⟨s1, s2, s3⟩ := step (.inl hm)
    refine ⟨fun σ' H'' => σ' = [some (.int n), some (.str (PySem.Str.mk #[48 + m % 10] ++ y)), some (.int ((m / 10 : Nat) : Int))] ∧ H'' = H', ?_, ?_⟩
    · rintro _ _ ⟨rfl, rfl⟩
      exact ⟨m / 10, s1, m / 10, _, rfl, rfl, .inr ⟨s2, s3, rfl⟩⟩
    · refine ⟨_, rfl, _, _, rfl, rfl, (by show (0 : Int) < 10; decide), _, _, 48 + m % 10, rfl, rfl, (by show (0 : Int) ≤ (m : Int) % 10; omega), (by show (m : Int) % 10 < 2 ^ 63; omega), (by show (m : Int) % 10 < 10; omega), ?_, ?_⟩
      · show (PySem.Str.ofString "0123456789").cps[((m : Int) % 10).toNat]? = _
        rw [em, Int.toNat_natCast]
        exact figs_at lt10
      · refine ⟨_, rfl, _, _, rfl, rfl, size2 (by show 1 + y.length ≤ 10000; omega), ?_⟩
        refine ⟨_, rfl, _, _, rfl, rfl, ⟨by decide, by decide⟩, ?_⟩
        refine ⟨?_, rfl⟩
        show [some (V.int n), some (V.str (PySem.Str.mk #[48 + m % 10] ++ y)), some (V.int ((m : Int) / 10))] = _
        rw [ed]
  · have hm : ¬ 0 < m := fun z => c (decide_eq_true (by omega))
    refine ⟨_, rfl, rfl, _, rfl, ?_⟩
    refine ite2 (fun c => ?_) (fun c => ?_)
    · rw [decS] at c
      have hm := str_nil (of_decide_eq_true c)
      obtain ⟨s1, s2, s3⟩ := step (.inr hm)
      refine ⟨fun σ' H'' => σ' = [some (.int n), some (.str (PySem.Str.mk #[48 + m % 10] ++ y)), some (.int ((m / 10 : Nat) : Int))] ∧ H'' = H', ?_, ?_⟩
      · rintro _ _ ⟨rfl, rfl⟩
        exact ⟨m / 10, s1, m / 10, _, rfl, rfl, .inr ⟨s2, s3, rfl⟩⟩
      · refine ⟨_, rfl, _, _, rfl, rfl, (by show (0 : Int) < 10; decide), _, _, 48 + m % 10, rfl, rfl, (by show (0 : Int) ≤ (m : Int) % 10; omega), (by show (m : Int) % 10 < 2 ^ 63; omega), (by show (m : Int) % 10 < 10; omega), ?_, ?_⟩
        · show (PySem.Str.ofString "0123456789").cps[((m : Int) % 10).toNat]? = _
          rw [em, Int.toNat_natCast]
          exact figs_at lt10
        · refine ⟨_, rfl, _, _, rfl, rfl, size2 (by show 1 + y.length ≤ 10000; omega), ?_⟩
          refine ⟨_, rfl, _, _, rfl, rfl, ⟨by decide, by decide⟩, ?_⟩
          refine ⟨?_, rfl⟩
          show [some (V.int n), some (V.str (PySem.Str.mk #[48 + m % 10] ++ y)), some (V.int ((m : Int) / 10))] = _
          rw [ed]
    · have hy0 : ¬ cl y = [] := fun e => c (by rw [decS]; exact decide_eq_true (ext (e.trans (show [] = cl (PySem.Str.ofString "") from rfl))))
      have hno : ¬ (0 < m ∨ cl y = []) := fun h => h.elim hm hy0
      exact ⟨_, rfl, _, _, rfl, rfl, .inr ⟨_, rfl, _, _, rfl, rfl, mok, _, rfl, _, _, rfl, rfl, size2 (by omega), q _ (tail hno)⟩⟩
theorem c__law_shown (T : Txt K mg ad) : CalB P w K mg base true 2 "_law_shown" ["_law_part_here"] (spShowD K) := by
  have C__law_written := c__law_written (P := P) (w := w) (base := base) T
  refine T.t__law_shown.calN sc__law_shown (fun _ _ _ _ _ _ => by1 fun _ => rfl) (fun vs H Q E h => ?_) (fun f cdv A outer s H vs Q E hr h => ?_)
  · obtain ⟨_, _, rfl, _⟩ := h; rfl
  obtain ⟨v, p, rfl, hv, sp, q⟩ := h
  obtain ⟨a, y1, y2, rfl, h, e1, e2⟩ := DV.t2 (show DV K H v (.tuple [.int p.num, .int (p.den : Int)]) from hv)
  obtain rfl := DV.int_of e1
  obtain rfl := DV.int_of e2
  refine ⟨_, (pss_cons (ps_if (pt_cmpR op_eq (pe_ix ix_tup (pv 0) pe_int (fun _ _ => rfl)) pe_int (nomark _)) (pss_one (ps_ret (pe_cB C__law_written (hr.mono (by decide)) pass01 (pa_sub (pe_ix ix_tup (pv 0) pe_int (fun _ _ => rfl)) pa_nil)))) pss_nil) (pss_one (ps_ret (pe_op op_add_str (pe_op op_add_str (pe_cB C__law_written (hr.mono (by decide)) pass01 (pa_sub (pe_ix ix_tup (pv 0) pe_int (fun _ _ => rfl)) pa_nil)) pe_str) (pe_cB C__law_written (hr.mono (by decide)) pass01 (pa_sub (pe_ix ix_tup (pv 0) pe_int (fun _ _ => rfl)) pa_nil)))))), ?_⟩
  refine ⟨_, rfl, a, _, _, _, rfl, rfl, h, rfl, rfl, _, rfl, ?_⟩
  have n1 := (dg_len (m := p.num.natAbs) (k := 15) (by decide)).mpr sp.n
  have n2 := (dg_len (m := p.den) (k := 15) (by decide)).mpr sp.d
  have e1 : ∀ x : PySem.Str, cl x = sh p → x = shS p := fun x hx => ext (hx.trans (cl_shS p).symm)
  refine ite2 (fun c1 => ?_) (fun c1 => ?_)
  · have d1 : p.den = 1 := by
      have z : decide (V.int (p.den : Int) = V.int 1) = true := c1
      rw [decI] at z
      have := of_decide_eq_true z
      omega
    refine ⟨_, rfl, a, _, _, _, rfl, rfl, h, rfl, _, rfl, sp.n, fun z hz => ?_⟩
    rw [e1 z (by rw [hz]; unfold sh; rw [if_pos d1, List.append_nil])]
    exact q
  · have d1 : ¬ p.den = 1 := by
      intro e
      apply c1
      show decide (V.int (p.den : Int) = V.int 1) = true
      rw [decI, e]
      rfl
    refine ⟨_, rfl, a, _, _, _, rfl, rfl, h, rfl, _, rfl, sp.n, fun z hz => ?_⟩
    have zl := cl_len z
    rw [hz, List.length_append] at zl
    have zl2 : (if p.num < 0 then [45] else [] : List Nat).length ≤ 1 := by split <;> decide
    have zs : (PySem.Str.ofString "/").length = 1 := rfl
    refine ⟨_, _, rfl, rfl, size2 (by omega), ?_⟩
    refine ⟨_, rfl, a, _, _, _, rfl, rfl, h, rfl, _, rfl, by rw [Int.natAbs_natCast]; exact sp.d, fun y hy => ?_⟩
    rw [if_neg (by omega), List.nil_append, Int.natAbs_natCast] at hy
    have yl := cl_len y
    rw [hy] at yl
    refine ⟨_, _, rfl, rfl, size2 (by rw [app_len]; omega), ?_⟩
    show Q (.str (z ++ PySem.Str.ofString "/" ++ y)) H
    rw [e1 (z ++ PySem.Str.ofString "/" ++ y) (by
      rw [cl_app, cl_app, hz, hy]
      unfold sh
      rw [if_neg d1]
      show _ ++ [47] ++ _ = _
      simp)]
    exact q
theorem c__law_piece_text (T : Txt K mg ad) : CalB P w K mg base true 3 "_law_piece_text" ["_law_piece_here"] (spShowP K) := by
  have C__law_shown := c__law_shown (P := P) (w := w) (base := base) T
  refine T.t__law_piece_text.calN sc__law_piece_text (fun _ _ _ _ _ _ => by1 fun _ => rfl) (fun vs H Q E h => ?_) (fun f cdv A outer s H vs Q E hr h => ?_)
  · obtain ⟨_, _, rfl, _⟩ := h; rfl
  obtain ⟨v, p, rfl, hv, ps, q⟩ := h
  refine ⟨_, (pss_one (ps_ret (pe_bm PySem.F.plainAttrs_str PySem.F.slot_str_join PySem.F.type_str_join mt_join pe_str (pa_bin (pe_op op_cat (pe_lst (pa_sub (pe_ix ix_tup (pv 0) pe_int (fun _ _ => rfl)) pa_nil)) (pe_comp ["_law_part_here"] [none] rfl (pi_tup (pe_slice sl_tup (pv 0) (po_some pe_int) po_none)) (fun _ _ _ _ _ => (pg_name (i := 0) (show List.Nodup [("_law_part_here" : Str)] by decide) rfl (by first | exact Or.inl rfl | exact Or.inr rfl))) (fun _ _ _ _ _ => pifs_nil) (fun _ _ _ _ _ => (pe_cB C__law_shown (hr.mono (by decide)) pass01 (pa_name (pv 0) pa_nil))) (cap_nil (by decide) (by decide)) (by decide) rfl (by decide) rfl (nocap rfl))) pa_nil)))), ?_⟩
  obtain ⟨t, xr, rfl, ht, hxr⟩ : ∃ (t : Addr) (xr : List V), v = .ref t ∧ SqT K H t (.str (wd p) :: xr) ∧ DVs K H xr ((fracs p).map frD) := by
    cases p with
    | gap g =>
      obtain ⟨t, y0, y1, rfl, ht, g0, g1⟩ := DV.t2 (show DV K H v (.tuple [.str "gap", frD g]) from hv)
      obtain rfl := DV.str_of g0
      exact ⟨t, _, rfl, ht, .cons g1 .nil⟩
    | glass g =>
      obtain ⟨t, y0, y1, rfl, ht, g0, g1⟩ := DV.t2 (show DV K H v (.tuple [.str "glass", frD g]) from hv)
      obtain rfl := DV.str_of g0
      exact ⟨t, _, rfl, ht, .cons g1 .nil⟩
    | stop g h =>
      obtain ⟨t, y0, y1, y2, rfl, ht, g0, g1, g2⟩ := DV.t3 (show DV K H v (.tuple [.str "stop", frD g, frD h]) from hv)
      obtain rfl := DV.str_of g0
      exact ⟨t, _, rfl, ht, .cons g1 (.cons g2 .nil)⟩
  have hl : xr.length = (fracs p).length := by have := hxr.len; rw [List.length_map] at this; exact this
  have fl : 1 ≤ (fracs p).length ∧ (fracs p).length ≤ 2 := by cases p <;> exact ⟨by simp [fracs], by simp [fracs]⟩
  refine ⟨rfl, _, rfl, t, _, _, _, rfl, rfl, ht, atI0, (by show 1 ≤ sizeLine; decide), fun p1 hp1 => ?_⟩
  have u1 := same_new hp1 (.lst [.str (wd p)])
  have m1 : upd H p1 (.lst [.str (wd p)]) p1 = some (.lst [.str (wd p)]) := upd_same
  generalize upd H p1 (.lst [.str (wd p)]) = H1 at u1 m1 ⊢
  refine ⟨_, rfl, _, rfl, t, _, rfl, ht.keep u1, (fun e => by rw [sIx1] at e; simp only [List.length_cons] at e; omega), fun p2 hp2 => ⟨p2, rfl, ⟨_, SqT.of upd_same⟩, ?_⟩⟩
  rw [cut1]
  have u2 := same_new hp2 (.tup ((V.str (wd p) :: xr).drop 1))
  have m2 : upd H1 p2 (.tup ((V.str (wd p) :: xr).drop 1)) p2 = some (.tup xr) := upd_same
  have m12 := u2 _ _ m1
  have s2 := u1.trans u2
  generalize upd H1 p2 (.tup ((V.str (wd p) :: xr).drop 1)) = H2 at u2 m2 m12 s2 ⊢
  refine comp_tup0 (K := K) (a := p2) (xs := xr) (fun i σ ys H' => ∃ c0, σ = [c0] ∧ ys = (((fracs p).take i).map shS).map V.str ∧ H' = H2) ⟨_, rfl, rfl, rfl⟩ ?_ ?_ ?_
  · rintro i σ ys H' hi ⟨c0, rfl, rfl, rfl⟩
    refine ⟨?_, SqT.of m2⟩
    rw [List.length_map, List.length_map, List.length_take]
    exact Nat.le_of_lt (small1000 (by omega))
  · rintro i x σ ys H' hi ⟨c0, rfl, rfl, rfl⟩
    obtain ⟨d, hd, hx⟩ := hxr.get hi
    rw [List.getElem?_map] at hd
    cases e : (fracs p)[i]? with
    | none => rw [e] at hd; cases hd
    | some g =>
      rw [e] at hd
      cases hd
      refine ⟨_, rfl, x, g, rfl, hx.keep s2, ps.2 g (List.mem_of_getElem? e), nx (lt_of_get hi) ⟨_, rfl, ?_, rfl⟩⟩
      rw [List.take_add_one, e, List.map_append, List.map_append]
      rfl
  · rintro σ ys H' p3 ⟨c0, rfl, rfl, rfl⟩ hp3
    rw [hl, List.take_length]
    have u3 := same_new hp3 (.lst (((fracs p).map shS).map V.str))
    have m3 : upd H' p3 (.lst (((fracs p).map shS).map V.str)) p3 = some (.lst (((fracs p).map shS).map V.str)) := upd_same
    have m13 := u3 _ _ m12
    have s3 := s2.trans u3
    generalize upd H' p3 (.lst (((fracs p).map shS).map V.str)) = H3 at u3 m3 m13 s3 ⊢
    refine ⟨p1, p3, _, _, rfl, rfl, m13, m3, Nat.le_of_lt (small1000 (by rw [List.length_map, List.length_map]; simp only [List.length_cons, List.length_nil]; omega)), fun p4 hp4 => ?_⟩
    have e4 : ([.str (wd p)] ++ ((fracs p).map shS).map V.str : List V) = (toks p).map V.str := rfl
    have jo : JoinOk (PySem.Str.ofString " ") (toks p) = true := by
      refine PyProof.Rows.joinOk_of_weight ?_ (by decide +kernel)
      have h1 : ∀ t ∈ toks p, t.length ≤ 50 := fun t ht => Lib.tok1_le p ps t ht
      have h2 := toks_len p
      have h3 : ((toks p).map (·.length)).sum ≤ (toks p).length * 50 := sum_le h1
      have h4 : (toks p).length * 50 ≤ 3 * 50 := Nat.mul_le_mul_right _ h2.1
      omega
    exact ⟨_, p4, toks p, rfl, rfl, by rw [upd_same, e4], jo, q _ (s3.trans (same_new hp4 _))⟩
theorem c__law_text (T : Txt K mg ad) : CalB P w K mg base true 4 "_law_text" ["_law_bench"] (spShowB K) := by
  have C__law_piece_text := c__law_piece_text (P := P) (w := w) (base := base) T
  refine T.t__law_text.calN sc__law_text (fun _ _ _ _ _ _ => by1 fun _ => rfl) (fun vs H Q E h => ?_) (fun f cdv A outer s H vs Q E hr h => ?_)
  · obtain ⟨_, _, rfl, _⟩ := h; rfl
  obtain ⟨v, ps, rfl, hv, l60, sh, q⟩ := h
  refine ⟨_, (pss_one (ps_ret (pe_bm PySem.F.plainAttrs_str PySem.F.slot_str_join PySem.F.type_str_join mt_join pe_str (pa_cons (pe_comp ["_law_piece_here"] [none] rfl (pi_list (pv 0)) (fun _ _ _ _ _ => (pg_name (i := 0) (show List.Nodup [("_law_piece_here" : Str)] by decide) rfl (by first | exact Or.inl rfl | exact Or.inr rfl))) (fun _ _ _ _ _ => pifs_nil) (fun _ _ _ _ _ => (pe_cB C__law_piece_text (hr.mono (by decide)) pass01 (pa_name (pv 0) pa_nil))) (cap_nil (by decide) (by decide)) (by decide) rfl (by decide) rfl (nocap rfl)) pa_nil)))), ?_⟩
  have s1 := Same.refl H
  obtain ⟨b, xs, rfl, hb, hxs⟩ := hv.lst_of
  have hl : xs.length = ps.length := by have := hxs.len; rw [List.length_map] at this; exact this
  refine ⟨rfl, _, rfl, b, rfl, ⟨_, hb.keep s1⟩, ?_⟩
  refine comp_list0 (K := K) (a := b) (xs := xs) (fun i σ ys H' => ∃ c0, σ = [c0] ∧ ys = ((ps.take i).map textP).map V.str ∧ Same H H') ⟨_, rfl, rfl, s1⟩ ?_ ?_ ?_
  · rintro i σ ys H' hi ⟨c0, rfl, rfl, s2⟩
    refine ⟨?_, hb.keep s2⟩
    rw [List.length_map, List.length_map, List.length_take]
    exact Nat.le_of_lt (small1000 (by omega))
  · rintro i x σ ys H' hi ⟨c0, rfl, rfl, s2⟩
    obtain ⟨d, hd, hx⟩ := hxs.get hi
    obtain ⟨pc, hpc, rfl⟩ := get_map_pc hd
    refine ⟨_, rfl, x, pc, rfl, hx.keep s2, sh pc (List.mem_of_getElem? hpc), fun H3 s3 => nx (lt_of_get hi) ⟨_, rfl, ?_, s2.trans s3⟩⟩
    rw [List.take_add_one, hpc, List.map_append, List.map_append]
    rfl
  · rintro σ ys H' p ⟨c0, rfl, rfl, s2⟩ hp
    rw [hl, List.take_length]
    have jo : JoinOk (PySem.Str.ofString "; ") (ps.map textP) = true := by
      refine PyProof.Rows.joinOk_of_weight ?_ (by decide +kernel)
      have h1 : ∀ t ∈ ps.map textP, t.length ≤ 200 := fun t ht => by
        obtain ⟨p, hp, rfl⟩ := List.mem_map.mp ht
        exact textP_len (sh p hp)
      have h3 := sum_le h1
      rw [List.length_map] at h3 ⊢
      have h4 : ps.length * 200 ≤ 60 * 200 := Nat.mul_le_mul_right _ l60
      omega
    exact ⟨_, p, ps.map textP, rfl, rfl, upd_same, jo, q _ (s2.trans (same_new hp _))⟩
end
end K72
namespace K72
open PySem L2 Lib Fr Op Tx PySem.NumText
seal PE PT PW PA PS PSs PG PGs PI PO PIfs PJ
section
variable {P : Program} {w : World} {K : PySem.W.Frag} {mg : PySem.Str → Option Value} {base : Heap} {ad : Adr} {c : Bool}
theorem c_is_name (T : Txt K mg ad) : CalB P w K mg base true 1 "is_name" ["thing"] (spName K) := by
  refine T.t_is_name.calN sc_is_name (fun _ _ _ _ _ _ => by1 fun _ => rfl) (fun vs H Q E h => ?_) (fun f cdv A outer s H vs Q E hr h => ?_)
  · obtain ⟨_, _, rfl, _⟩ := h; rfl
  obtain ⟨v, d, rfl, hv, ok, q⟩ := h
  refine ⟨_, (pss_cons (ps_if (PW.pt (pw_or (pt_not (pt_val (pe_callB call_isiD rfl T.isinstance bt_isinstance (pa_name (pv 0) (pa_name (pe_bltn (v := .ty "str") rfl T.str bt_str rfl) pa_nil))))) (pw_or1 (pt_not (pt_chain op_le op_le pe_int (pe_callB call_len_str rfl T.len bt_len (pa_name (pv 0) pa_nil)) (pe_glob (v := .int 8) rfl T.ex.m_MOST_LETTERS ⟨_, rfl⟩)))))) (pss_one (ps_ret pe_bl)) pss_nil) (pss_one (ps_ret (pe_callB (call_all rfl) rfl T.all bt_all (pa_cons (pe_compIn rfl (pv 0) T.ex.m_LETTERS (by decide) (by decide) rfl (by decide) rfl rfl rfl rfl) pa_nil))))), ?_⟩
  refine ⟨_, rfl, _, _, _, _, rfl, hv, isStr_b d, _, rfl, ?_⟩
  cases ht : isStrD d with
  | false =>
    have q0 := q _ (Same.refl _)
    rw [nameD_no ht] at q0
    exact iteT (iteT q0)
  | true =>
    obtain ⟨z, rfl⟩ := isStr_of ht
    obtain rfl := DV.str_of hv
    have hz := ok z rfl
    refine iteF ⟨_, rfl, z, rfl, hz, _, _, rfl, rfl, _, rfl, ?_⟩
    by_cases h1 : 1 ≤ z.length
    · refine iteT' (decide_eq_true (by omega)) ⟨_, _, rfl, rfl, _, rfl, ?_⟩
      by_cases h2 : z.length ≤ 8
      · refine iteF' (by rw [decide_eq_true (by omega)]; rfl) ?_
        refine ⟨_, rfl, z, rfl, hz, fun p hp => ?_⟩
        refine ⟨p, (PyProof.Rows.signs z).map inLet, rfl, SqL.of (by rw [List.map_map]; exact upd_same), ?_⟩
        have q0 := q _ (same_new hp (.lst ((PyProof.Rows.signs z).map fun x => V.bl (inLet x))))
        have e : nameD (.str z) = ((PyProof.Rows.signs z).map inLet).all id := by
          show ((decide (1 ≤ z.length) && decide (z.length ≤ 8)) && _) = _
          rw [decide_eq_true h1, decide_eq_true h2, List.all_map]; rfl
        rw [← e]
        exact q0
      · have q0 := q _ (Same.refl _)
        have e : nameD (.str z) = false := by
          show ((decide (1 ≤ z.length) && decide (z.length ≤ 8)) && _) = _
          rw [decide_eq_false h2, Bool.and_false, Bool.false_and]
        rw [e] at q0
        exact iteT' (by rw [decide_eq_false (by omega)]; rfl) q0
    · have q0 := q _ (Same.refl _)
      have e : nameD (.str z) = false := by
        show ((decide (1 ≤ z.length) && decide (z.length ≤ 8)) && _) = _
        rw [decide_eq_false h1, Bool.false_and, Bool.false_and]
      rw [e] at q0
      exact iteF' (decide_eq_false (by omega)) ⟨_, rfl, iteT q0⟩
theorem f_turned_bench (T : Txt K mg ad) : CalB P w K mg base true 5 "turned_bench" ["bench"] (spTurnD K) := by
  have C_look_at := c_look_at (P := P) (w := w) (base := base) T
  refine T.t_turned_bench.calN sc_turned_bench (fun _ _ _ _ _ _ => by1 fun _ => rfl) (fun vs H Q E h => ?_) (fun f cdv A outer s H vs Q E hr h => ?_)
  · obtain ⟨_, _, rfl, _⟩ := h; rfl
  obtain ⟨v, ps, rfl, hb, g, k⟩ := h
  obtain ⟨a, xs, rfl, ha, hxs⟩ := DV.lst_of hb
  refine ⟨_, (pss_cons (ps_expr (pe_cB C_look_at (hr.mono (by decide)) pass01 (pa_name (pv 0) pa_nil))) (pss_one (ps_ret (pe_listrev rfl (pv 0) rfl T.list rfl T.reversed)))), ?_⟩
  refine ⟨_, rfl, _, ps, 50, rfl, hb, g.good, by omega, fun H1 s1 => ?_⟩
  refine ⟨_, rfl, a, xs, rfl, ha.keep s1, fun r hr' => ?_⟩
  have u2 := same_new hr' (.lst xs.reverse)
  refine k _ _ _ (s1.trans u2) (s1.free hr') upd_same ?_
  rw [List.map_reverse]
  exact dvs_rev (hxs.keep (s1.trans u2))
theorem x_show_answer (T : Txt K mg ad) : CalB P w K mg base true 6 "show_answer" ["bench", "numbers"] (spShA K) := by
  have C_show_bench := g_show_bench (P := P) (w := w) (base := base) T
  refine T.t_show_answer.calN sc_show_answer (fun _ _ _ _ _ _ => by2 fun _ _ => rfl) (fun vs H Q E h => ?_) (fun f cdv A outer s H vs Q E hr h => ?_)
  · obtain ⟨_, _, _, rfl, _⟩ := h; rfl
  obtain ⟨v, u, ps, rfl, hb, g, k⟩ := h
  refine ⟨_, (pss_one (ps_ret (pe_cB C_show_bench (hr.mono (by decide)) pass01 (pa_name (pv 0) pa_nil)))), ?_⟩
  exact ⟨_, rfl, v, ps, rfl, hb, g.1, g.2, k⟩
theorem x_look_at_name (T : Txt K mg ad) : CalB P w K mg base true 2 "look_at_name" ["word"] spNmOk := by
  have C_is_name := c_is_name (P := P) (w := w) (base := base) T
  refine T.t_look_at_name.calN sc_look_at_name (fun _ _ _ _ _ _ => by1 fun _ => rfl) (fun vs H Q E h => ?_) (fun f cdv A outer s H vs Q E hr h => ?_)
  · obtain ⟨_, rfl, _⟩ := h; rfl
  obtain ⟨x, rfl, nx, k⟩ := h
  refine ⟨_, (pss_one (ps_if (pt_not (pt_val (pe_cB C_is_name (hr.mono (by decide)) pass01 (pa_name (pv 0) pa_nil)))) (pss_one ps_never) pss_nil)), ?_⟩
  refine ⟨_, rfl, _, _, rfl, .str x, (fun z e => by cases e; exact Nat.le_trans nx.len (by decide)), fun H1 s1 => ?_⟩
  refine ⟨_, rfl, ?_⟩
  refine iteF' (by rw [show nameD (.str x) = true from nx]; rfl) ?_
  exact k _ s1
theorem x_read_number_desk (T : Txt K mg ad) : CalB P w K mg base true 7 "read_number_desk" ["word"] (fun _ _ _ _ => False) := by
  have C_read_ratio := g_read_ratio (P := P) (w := w) (base := base) T
  refine T.t_read_number_desk.calN sc_read_number_desk (fun _ _ _ _ _ _ => by1 fun _ => rfl) (fun vs H Q E h => h.elim) (fun f cdv A outer s H vs Q E hr h => h.elim)
def RowF (K : PySem.W.Frag) (ad : Adr) (wd : PySem.Str) (n : Nat) (fa : Addr) : Prop := valV (dkS [("join", V.ref ad.ROWS_join), ("turn", V.ref ad.ROWS_turn), ("show", V.ref ad.ROWS_show), ("walk", V.ref ad.ROWS_walk), ("table", V.ref ad.ROWS_table), ("apart", V.ref ad.ROWS_apart), ("image", V.ref ad.ROWS_image), ("field", V.ref ad.ROWS_field), ("sharp", V.ref ad.ROWS_sharp), ("rounds", V.ref ad.ROWS_rounds)]) (.inr wd) = some (.ref fa) ∧ (∀ H, SqT K H fa [.int (n : Int), .int 0]) ∧ wd ≠ sOf "sharp"
theorem rowF_of (T : Txt K mg ad) {wd : PySem.Str} {ns : List PySem.Str} (h : (wd = sOf "join" ∧ ns.length = 3) ∨ (wd = sOf "turn" ∧ ns.length = 2) ∨ (wd = sOf "show" ∧ ns.length = 1)) : ns.length ≤ 3 ∧ ∃ fa, RowF K ad wd ns.length fa := by
  rcases h with ⟨rfl, e⟩ | ⟨rfl, e⟩ | ⟨rfl, e⟩
  · exact ⟨by omega, ad.ROWS_join, by unfold valV dkS; rfl, fun H => by rw [e]; exact T.ex.s_ROWS_join H, by decide +kernel⟩
  · exact ⟨by omega, ad.ROWS_turn, by unfold valV dkS; rfl, fun H => by rw [e]; exact T.ex.s_ROWS_turn H, by decide +kernel⟩
  · exact ⟨by omega, ad.ROWS_show, by unfold valV dkS; rfl, fun H => by rw [e]; exact T.ex.s_ROWS_show H, by decide +kernel⟩
theorem x_read_row (T : Txt K mg ad) (hw : w.params = ad.pr) : CalB P w K mg base true 8 "read_row" ["words"] spRow := by
  have C_look_at_name := x_look_at_name (P := P) (w := w) (base := base) T
  have C_is_less := c_is_less (P := P) (w := w) (base := base) T
  have C_read_number_desk := x_read_number_desk (P := P) (w := w) (base := base) T
  refine T.t_read_row.calN sc_read_row (fun _ _ _ _ _ _ => by1 fun _ => rfl) (fun vs H Q E h => ?_) (fun f cdv A outer s H vs Q E hr h => ?_)
  · obtain ⟨_, _, _, rfl, _⟩ := h; rfl
  obtain ⟨l, wd, ns, rfl, hl, nn, hc, k⟩ := h
  obtain ⟨n3, fa, ev, sq, nsh⟩ := rowF_of T hc
  refine ⟨_, (pss_cons (ps_set (i := 1) sc_read_row.nd rfl (Or.inl rfl) (pe_dget1G (pe_glob (v := .ref ad.ROWS) rfl T.ex.m_ROWS rfl) (pe_ix ix_list (pv 0) pe_int (fun _ _ => rfl)) ⟨rfl, rfl, rfl, rfl⟩)) (pss_cons (ps_if (PW.pt (pw_or (pt_cmpR op_isN (pv 1) pe_non (nomark _)) (pw_or1 (pt_cmpR op_ne (pe_callB call_len_seq rfl T.len bt_len (pa_name (pv 0) pa_nil)) (pe_op op_add (pe_op op_add pe_int (pe_ix ix_tup (pv 1) pe_int (fun _ _ => rfl))) (pe_ix ix_tup (pv 1) pe_int (fun _ _ => rfl))) (nomark _))))) (pss_one ps_never) pss_nil) (pss_cons (ps_set (i := 2) sc_read_row.nd rfl (Or.inl rfl) (pe_slice sl_list (pv 0) (po_some pe_int) (po_some (pe_op op_add pe_int (pe_ix ix_tup (pv 1) pe_int (fun _ _ => rfl)))))) (pss_cons (ps_for PassesOwn.never rfl (pi_list (pv 2)) (pg_name (i := 3) sc_read_row.nd rfl (by first | exact Or.inl rfl | exact Or.inr rfl)) (pss_one (ps_expr (pe_cB C_look_at_name (hr.mono (by decide)) pass01 (pa_name (pv 3) pa_nil))))) (pss_cons (ps_comp (i := 4) sc_read_row.nd rfl (by first | exact Or.inl rfl | exact Or.inr rfl) ["word"] [none] rfl (pi_list (pe_slice sl_list (pv 0) (po_some (pe_op op_add pe_int (pe_ix ix_tup (pv 1) pe_int (fun _ _ => rfl)))) po_none)) (fun _ _ _ _ _ => (pg_name (i := 0) (show List.Nodup [("word" : Str)] by decide) rfl (by first | exact Or.inl rfl | exact Or.inr rfl))) (fun _ _ _ _ _ => pifs_nil) (fun _ _ _ _ _ => (pe_cB C_read_number_desk (hr.mono (by decide)) pass01 (pa_name (pv 0) pa_nil))) (cap_nil (by decide) (by decide)) (by decide) rfl (by decide) rfl (nocap rfl)) (pss_cons (ps_if (PW.pt (pw_and (pt_cmpR op_eq (pe_ix ix_list (pv 0) pe_int (fun _ _ => rfl)) pe_str (nomark _)) (pw_and1 (pt_val (pe_cB C_is_less (hr.mono (by decide)) pass01 (pa_sub (pe_ix ix_tup (pv 4) pe_int (fun _ _ => rfl)) (pa_name (pe_glob (v := .ref ad.NOUGHT) rfl T.ex.m_NOUGHT rfl) pa_nil))))))) (pss_one ps_never) pss_nil) (pss_one (ps_ret (pe_tup (pa_name (pv 2) (pa_name (pv 4) pa_nil))))))))))), ?_⟩
  refine ⟨ad.ROWS, _, rfl, T.ex.g_ROWS _ _ hw, _, rfl, l, _, _, .str wd, rfl, rfl, SqL.of hl, atI_nat (j := 0) rfl, .inr wd, rfl, ?_⟩
  rw [ev]
  refine ⟨_, rfl, rfl, _, rfl, iteF' (by rfl) ?_⟩
  refine ⟨_, rfl, l, _, rfl, .inl (SqL.of hl), _, rfl, fa, _, _, .int (ns.length : Int), rfl, rfl, sq H, rfl, _, _, rfl, rfl, _, rfl, fa, _, _, .int 0, rfl, rfl, sq H, rfl, _, _, rfl, rfl, ?_⟩
  refine ⟨rfl, _, rfl, iteF' (by rw [decI, decide_eq_true (show (((wd :: ns).map V.str).length : Int) = 1 + (ns.length : Int) + 0 by simp only [List.length_map, List.length_cons]; omega)]; rfl) ?_⟩
  refine ⟨_, rfl, _, rfl, _, rfl, fa, _, _, .int (ns.length : Int), rfl, rfl, sq H, rfl, _, _, rfl, rfl, _, rfl, l, _, rfl, SqL.of hl, fun l1 hl1 => ?_⟩
  have ll : ((wd :: ns).map V.str).length = 1 + ns.length := by simp only [List.length_map, List.length_cons]; omega
  have ec : cutV ((wd :: ns).map V.str) (some 1) (some (1 + (ns.length : Int))) = ns.map V.str := by
    unfold cutV
    rw [show HT.sIx ((wd :: ns).map V.str).length 0 (some 1) = min 1 ((wd :: ns).map V.str).length from HT.sIx_nat _ _ 1, show (1 + (ns.length : Int)) = ((1 + ns.length : Nat) : Int) by omega, HT.sIx_nat, ll, Nat.min_self, Nat.min_eq_left (by omega)]
    show (ns.map V.str).take _ = _
    exact List.take_of_length_le (by rw [List.length_map]; omega)
  have ed : cutV ((wd :: ns).map V.str) (some (1 + (ns.length : Int))) none = [] := by
    unfold cutV
    rw [show (1 + (ns.length : Int)) = ((1 + ns.length : Nat) : Int) by omega, HT.sIx_nat, HT.sIx_none, ll, Nat.min_self, Nat.sub_self]
    rfl
  rw [ec]
  have u1 := same_new hl1 (.lst (ns.map V.str))
  have hl1' : upd H l1 (.lst (ns.map V.str)) l1 = some (.lst (ns.map V.str)) := upd_same
  generalize upd H l1 (.lst (ns.map V.str)) = H1 at u1 hl1' ⊢
  refine ⟨_, rfl, l1, rfl, ⟨_, SqL.of hl1'⟩, ?_⟩
  refine for_list (K := K) (a := l1) (xs := ns.map V.str) (fun i σ H' => ∃ c3, σ = [some (.ref l), some (.ref fa), some (.ref l1), c3, none] ∧ Same H1 H') ⟨_, rfl, Same.refl _⟩ ?_ ?_ ?_
  · rintro i σ H' hi ⟨c3, rfl, s2⟩
    exact SqL.of (s2 _ _ hl1')
  · rintro i x σ H' hi ⟨c3, rfl, s2⟩
    rw [List.getElem?_map] at hi
    cases en : ns[i]? with
    | none => rw [en] at hi; cases hi
    | some y =>
      rw [en] at hi
      cases hi
      exact ⟨_, rfl, y, rfl, nn y (List.mem_of_getElem? en), fun H3 s3 => ⟨_, rfl, s2.trans s3⟩⟩
  · rintro σ H' ⟨c3, rfl, s2⟩
    have hl2 : H' l = some (.lst ((wd :: ns).map V.str)) := s2 _ _ (u1 _ _ hl)
    refine ⟨_, rfl, _, rfl, fa, _, _, .int (ns.length : Int), rfl, rfl, sq H', rfl, _, _, rfl, rfl, _, rfl, l, _, rfl, SqL.of hl2, fun l2 hl2' => ?_⟩
    rw [ed]
    have u3 := same_new hl2' (.lst ([] : List V))
    refine ⟨l2, rfl, ⟨_, SqL.of upd_same⟩, ?_⟩
    refine comp_list0 (K := K) (a := l2) (xs := []) (fun i σ ys H3 => ys = [] ∧ H3 = upd H' l2 (.lst [])) ⟨rfl, rfl⟩ ?_ ?_ ?_
    · rintro i σ ys H3 hi ⟨rfl, rfl⟩
      exact ⟨by decide, SqL.of upd_same⟩
    · rintro i x σ ys H3 hi ⟨rfl, rfl⟩
      cases hi
    · rintro σ ys H3 p ⟨rfl, rfl⟩ hp
      have u4 := u3.trans (same_new hp (.lst ([] : List V)))
      generalize upd (upd H' l2 (.lst [])) p (.lst []) = H4 at u4 ⊢
      refine ⟨_, rfl, l, _, _, .str wd, rfl, rfl, SqL.of (u4 _ _ hl2), atI_nat (j := 0) rfl, rfl, _, rfl, iteF' (by rw [decS]; exact decide_eq_false nsh) (iteF ?_)⟩
      refine ⟨_, rfl, _, rfl, (by show 2 ≤ sizeLine; decide), fun r hr' => ?_⟩
      have u5 := same_new hr' (.tup [.ref l1, .ref p])
      exact k r l1 p _ (((u1.trans s2).trans u4).trans u5) upd_same (u5 _ _ (u4 _ _ (s2 _ _ hl1')))
end
end K72
namespace K72
open PySem L2 Lib Fr Op Tx PySem.NumText
seal PE PT PW PA PS PSs PG PGs PI PO PIfs PJ
section
variable {P : Program} {w : World} {K : PySem.W.Frag} {mg : PySem.Str → Option Value} {base : Heap} {ad : Adr} {c : Bool}
theorem k_Desk (T : Txt K mg ad) : MkC P w K mg base 1 "Desk" ad.Desk ["self"] (spDInit ad.Desk) := by
  refine T.ex.i_Desk.mkc sc_Desk_init (fun _ _ _ _ _ _ => by1 fun _ => rfl) (fun vs H Q E h => ?_) (fun f cdv A outer s H vs Q E hr h => ?_)
  · obtain ⟨_, _, rfl, _⟩ := h; rfl
  obtain ⟨a, dx, rfl, ha, q⟩ := h
  refine ⟨_, (pss_one (ps_fldB (pv 0) pe_dnewK)), ?_⟩
  exact fun d hd => ⟨_, rfl, a, ad.Desk, dx, [], rfl, by rw [upd_ne (ne_of_none ha hd)]; exact ha, T.ex.l_Desk, T.ex.n_Desk_benches, by decide, q d hd⟩
theorem mc_bench_by (T : Txt K mg ad) : MC P w K mg base 1 ad.Desk "bench_by" ["self", "name"] (spBy K ad.Desk) := by
  refine T.ex.q_Desk_bench_by.mc sc_Desk_bench_by (fun _ _ _ _ _ _ => by2 fun _ _ => rfl) (fun vs H Q E h => ?_) (fun f cdv A outer s H vs Q E hr h => ?_)
  · obtain ⟨_, _, _, _, _, _, _, _, rfl, _⟩ := h; rfl
  obtain ⟨o, dx, d, q, x, S, n, ps, rfl, dk, sx, k⟩ := h
  refine ⟨_, (pss_cons (ps_if (pt_cmp (pc_dnotin hr.units1 (pv 1) (pe_fldB (pv 0)))) (pss_one ps_never) pss_nil) (pss_one (ps_ret (pe_dget hr.units1 (pe_fldB (pv 0)) (pv 1) (fun _ _ => rfl))))), ?_⟩
  obtain ⟨kvs, hk, hl, db⟩ := dk.d
  obtain ⟨ok, l, ev, hb, nl⟩ := db.at sx
  have g : DGet H d (.str x) (some (.ref l)) := ev ▸ DGet.k (k := .inr x) hk
  refine ⟨_, rfl, _, rfl, o, _, dx, _, _, rfl, dk.o, T.ex.l_Desk, T.ex.n_Desk_benches, rfl, d, _, rfl, g, _, rfl, iteF' rfl ?_⟩
  exact ⟨_, rfl, o, _, dx, _, _, rfl, dk.o, T.ex.l_Desk, T.ex.n_Desk_benches, rfl, _, rfl, d, _, rfl, g, k l hb nl⟩
theorem mx_bench_by (T : Txt K mg ad) : MC P w K mg base 1 ad.Desk "bench_by" ["self", "name"] (spByX K ad.Desk ad.Unknown) := by
  refine T.ex.q_Desk_bench_by.mcR sc_Desk_bench_by (fun _ _ _ _ _ _ => by2 fun _ _ => rfl) (fun vs H Q E h => ?_) (fun f cdv A outer s H vs Q E hr h => ?_)
  · obtain ⟨_, _, _, _, _, _, _, rfl, _⟩ := h; rfl
  obtain ⟨o, dx, d, q, x, S, n, rfl, dk, sx, k⟩ := h
  refine ⟨_, (pss_cons (ps_if (pt_cmp (pc_dnotin hr.units1 (pv 1) (pe_fldB (pv 0)))) (pss_one (ps_raise bodyB rfl T.ex.c_Unknown (pa_const pe_str pa_nil))) pss_nil) (pss_one (ps_ret (pe_dget hr.units1 (pe_fldB (pv 0)) (pv 1) (fun _ _ => rfl))))), ?_⟩
  obtain ⟨kvs, hk, hl, db⟩ := dk.d
  have g : DGet H d (.str x) none := (db.no sx) ▸ DGet.k (k := .inr x) hk
  refine ⟨_, rfl, _, rfl, o, _, dx, _, _, rfl, dk.o, T.ex.l_Desk, T.ex.n_Desk_benches, rfl, d, _, rfl, g, _, rfl, iteT' rfl ?_⟩
  exact ⟨(by show 1 ≤ sizeLine; decide), k⟩
theorem mc_keep (T : Txt K mg ad) : MC P w K mg base 6 ad.Desk "keep" ["self", "name", "bench"] (spKeep K ad.Desk) := by
  have C_look_at := c_look_at (P := P) (w := w) (base := base) T
  refine T.ex.q_Desk_keep.mc sc_Desk_keep (fun _ _ _ _ _ _ => by3 fun _ _ _ => rfl) (fun vs H Q E h => ?_) (fun f cdv A outer s H vs Q E hr h => ?_)
  · obtain ⟨_, _, _, _, _, _, _, _, _, rfl, _⟩ := h; rfl
  obtain ⟨o, dx, d, q, l, x, S, n, ps, rfl, dk, n1, hb, nl, ok, k⟩ := h
  refine ⟨_, (pss_cons (ps_expr (pe_cB C_look_at (hr.mono (by decide)) pass01 (pa_name (pv 2) pa_nil))) (pss_cons (ps_dput hr.units1 (pe_fldB (pv 0)) (pv 1) (pv 2) rfl) (pss_one (ps_ret (pe_glob (v := .str "ok") rfl T.ex.m_DONE ⟨_, rfl⟩))))), ?_⟩
  refine ⟨_, rfl, .ref l, ps, 50, rfl, hb.dv, ok.good, by decide, fun H1 s1 => ?_⟩
  have dk1 := dk.keep s1
  obtain ⟨kvs, hk, hl, db⟩ := dk1.d
  refine ⟨_, rfl, _, rfl, o, _, dx, _, _, rfl, dk1.o, T.ex.l_Desk, T.ex.n_Desk_benches, rfl, _, rfl, d, _, rfl, DPut.k (k := .inr x) hk (Nat.lt_of_le_of_lt (Nat.le_trans hl n1) (by decide)), ?_⟩
  exact k _ ((Lib.SD.ofSame s1).trans (sd_updA _)) (dk1.put hk (hb.keep s1) nl ok)
theorem mc_lay (T : Txt K mg ad) : MC P w K mg base 26 ad.Desk "lay" ["self", "row"] (spSayB K ad.Desk) := by
  have C_look_at_name := x_look_at_name (P := P) (w := w) (base := base) T
  have C_read_bench := g_read_bench_k (P := P) (w := w) (base := base) T
  refine T.ex.q_Desk_lay.mc sc_Desk_lay (fun _ _ _ _ _ _ => by2 fun _ _ => rfl) (fun vs H Q E h => ?_) (fun f cdv A outer s H vs Q E hr h => ?_)
  · obtain ⟨_, _, _, _, _, _, _, _, rfl, _⟩ := h; rfl
  obtain ⟨o, dx, d, q, x, S, n, ps, rfl, dk, ⟨zq, hq⟩, n1, nx, l4, wp, tl, cn, ok, k⟩ := h
  refine ⟨_, (pss_cons (ps_set (i := 2) sc_Desk_lay.nd rfl (Or.inl rfl) (pe_bm PySem.F.plainAttrs_str PySem.F.slot_str_split PySem.F.type_str_split mt_split2 (pv 1) (pa_const pe_str (pa_const pe_int pa_nil)))) (pss_cons (ps_if (pt_cmpR op_ne (pe_callB call_len_seq rfl T.len bt_len (pa_name (pv 2) pa_nil)) pe_int (nomark _)) (pss_one ps_never) pss_nil) (pss_cons (ps_expr (pe_cB C_look_at_name (hr.mono (by decide)) pass01 (pa_sub (pe_ix ix_list (pv 2) pe_int (fun _ _ => rfl)) pa_nil))) (pss_one (ps_ret (pe_mB (k := 6) (pv 0) (hr.mono (by decide)) (pa_sub (pe_ix ix_list (pv 2) pe_int (fun _ _ => rfl)) (pa_call (pe_cB C_read_bench (hr.mono (by decide)) pass01 (pa_sub (pe_ix ix_list (pv 2) pe_int (fun _ _ => rfl)) pa_nil)) pa_nil)))))))), ?_⟩
  refine ⟨_, rfl, rfl, _, sOf "bench", x, textL 5 ps, rfl, rfl, cl_B _ _, by decide +kernel, nx.no, (by rw [len_B nx]; have := nx.len; exact Nat.le_trans (show _ ≤ 20000 by omega) (by decide)), fun wl hwl => ?_⟩
  have u1 := same_new hwl (.lst [.str (sOf "bench"), .str x, .str (textL 5 ps)])
  have h1 : upd H wl (.lst [.str (sOf "bench"), .str x, .str (textL 5 ps)]) wl = some (.lst [.str (sOf "bench"), .str x, .str (textL 5 ps)]) := upd_same
  generalize upd H wl (.lst [.str (sOf "bench"), .str x, .str (textL 5 ps)]) = H1 at u1 h1 ⊢
  refine ⟨_, rfl, wl, _, rfl, .inl (SqL.of h1), rfl, _, rfl, iteF' rfl ?_⟩
  refine ⟨_, rfl, wl, _, _, .str x, rfl, rfl, SqL.of h1, atI_nat (j := 1) rfl, x, rfl, nx, fun H2 s2 => ?_⟩
  have dk2 := dk.keep (u1.trans s2)
  have h2 := s2 _ _ h1
  refine ⟨_, rfl, o, _, dx, _, _, _, rfl, dk2.o, rfl, mc_keep T, _, rfl, wl, _, _, .str x, rfl, rfl, SqL.of h2, atI_nat (j := 1) rfl, _, rfl, wl, _, _, .str (textL 5 ps), rfl, rfl, SqL.of h2, atI_nat (j := 2) rfl, ps, rfl, l4, wp, by omega, fun _ l xs H3 s3 nl hl hxs => ?_, fun e => absurd cn (by omega)⟩
  have nq : l ≠ q := fun e => by
    have := s2 _ _ (u1 _ _ hq)
    rw [← e, nl] at this
    cases this
  exact ⟨o, dx, d, q, l, x, S, n, toldL 5 ps, rfl, dk2.keep s3, n1, .of hl hxs, nq, ok, fun H4 s4 dk4 => k H4 ((Lib.SD.ofSame ((u1.trans s2).trans s3)).trans s4) dk4⟩
theorem mc_say_B (T : Txt K mg ad) (hw : w.params = ad.pr) : MC P w K mg base 28 ad.Desk "say" ["self", "row"] (spSayB K ad.Desk) := by
  have C_read_row := x_read_row (P := P) (w := w) (base := base) T hw
  have C_turned_bench := f_turned_bench (P := P) (w := w) (base := base) T
  refine T.ex.q_Desk_say.mc sc_Desk_say (fun _ _ _ _ _ _ => by2 fun _ _ => rfl) (fun vs H Q E h => ?_) (fun f cdv A outer s H vs Q E hr h => ?_)
  · obtain ⟨_, _, _, _, _, _, _, _, rfl, _⟩ := h; rfl
  obtain ⟨o, dx, d, q, x, S, n, ps, rfl, dk, ⟨zq, hq⟩, n1, nx, l4, wp, tl, cn, ok, k⟩ := h
  refine ⟨_, (pss_cons (ps_if (pt_not (pt_val (pe_callB call_isiD rfl T.isinstance bt_isinstance (pa_name (pv 1) (pa_name (pe_bltn (v := .ty "str") rfl T.str bt_str rfl) pa_nil))))) (pss_one ps_never) pss_nil) (pss_cons (ps_set (i := 2) sc_Desk_say.nd rfl (Or.inl rfl) (pe_bm PySem.F.plainAttrs_str PySem.F.slot_str_split PySem.F.type_str_split mt_split (pv 1) (pa_const pe_str pa_nil))) (pss_cons (ps_if (pt_cmpR op_eq (pe_ix ix_list (pv 2) pe_int (fun _ _ => rfl)) pe_str (nomark _)) (pss_one (ps_ret (pe_mB (k := 26) (pv 0) (hr.mono (by decide)) (pa_name (pv 1) pa_nil)))) pss_nil) (pss_cons (ps_set (i := 3) sc_Desk_say.nd rfl (Or.inl rfl) (pe_cB C_read_row (hr.mono (by decide)) pass01 (pa_name (pv 2) pa_nil))) (pss_cons (ps_set (i := 4) sc_Desk_say.nd rfl (Or.inl rfl) (pe_ix ix_tup (pv 3) pe_int (fun _ _ => rfl))) (pss_cons (ps_if (pt_cmpR op_eq (pe_ix ix_list (pv 2) pe_int (fun _ _ => rfl)) pe_str (nomark _)) (pss_one (ps_ret (pe_mB (k := 6) (pv 0) (hr.mono (by decide)) (pa_sub (pe_ix ix_list (pv 4) pe_int (fun _ _ => rfl)) (pa_bin (pe_op op_cat (pe_mB (k := 1) (pv 0) (hr.mono (by decide)) (pa_sub (pe_ix ix_list (pv 4) pe_int (fun _ _ => rfl)) pa_nil)) (pe_mB (k := 1) (pv 0) (hr.mono (by decide)) (pa_sub (pe_ix ix_list (pv 4) pe_int (fun _ _ => rfl)) pa_nil))) pa_nil))))) pss_nil) (pss_cons (ps_if (pt_cmpR op_eq (pe_ix ix_list (pv 2) pe_int (fun _ _ => rfl)) pe_str (nomark _)) (pss_one (ps_ret (pe_mB (k := 6) (pv 0) (hr.mono (by decide)) (pa_sub (pe_ix ix_list (pv 4) pe_int (fun _ _ => rfl)) (pa_call (pe_cB C_turned_bench (hr.mono (by decide)) pass01 (pa_call (pe_mB (k := 1) (pv 0) (hr.mono (by decide)) (pa_sub (pe_ix ix_list (pv 4) pe_int (fun _ _ => rfl)) pa_nil)) pa_nil)) pa_nil))))) pss_nil) (pss_one (ps_ret (pe_callS pass01 (pe_dgetG (pe_glob (v := .ref ad.ANSWERS) rfl T.ex.m_ANSWERS rfl) (pe_ix ix_list (pv 2) pe_int (fun _ _ => rfl)) (fun _ _ => rfl)) (pa_call (pe_mB (k := 1) (pv 0) (hr.mono (by decide)) (pa_sub (pe_ix ix_list (pv 4) pe_int (fun _ _ => rfl)) pa_nil)) (pa_sub (pe_ix ix_tup (pv 3) pe_int (fun _ _ => rfl)) pa_nil)))))))))))), ?_⟩
  refine ⟨_, rfl, _, _, _, _, rfl, .str _, isStr_b _, _, rfl, iteF ?_⟩
  refine ⟨_, rfl, rfl, _, _, rfl, rfl, rfl, (by rw [len_B nx]; have := nx.len; exact Nat.le_trans (show _ ≤ 20000 by omega) (by decide)), fun wl hwl => ?_⟩
  obtain ⟨r, er⟩ := split_B (t := textL 5 ps) nx
  have er : Txt.split (rowB x (textL 5 ps)) (PySem.Str.ofString " ") = sOf "bench" :: r := er
  rw [er]
  have u1 := same_new hwl (.lst ((sOf "bench" :: r).map V.str))
  have h1 : upd H wl (.lst ((sOf "bench" :: r).map V.str)) wl = some (.lst ((sOf "bench" :: r).map V.str)) := upd_same
  generalize upd H wl (.lst ((sOf "bench" :: r).map V.str)) = H1 at u1 h1 ⊢
  refine ⟨_, rfl, wl, _, _, .str (sOf "bench"), rfl, rfl, SqL.of h1, atI_nat (j := 0) rfl, rfl, _, rfl, iteT' (by rw [decS]; exact decide_eq_true rfl) ?_⟩
  have dk1 := dk.keep u1
  exact ⟨_, rfl, o, _, dx, _, _, _, rfl, dk1.o, rfl, mc_lay T, _, rfl, o, dx, d, q, x, S, n, ps, rfl, dk1, ⟨zq, u1 _ _ hq⟩, n1, nx, l4, wp, tl, cn, ok, fun H2 s2 dk2 => k H2 ((Lib.SD.ofSame u1).trans s2) dk2⟩
theorem mc_say_J (T : Txt K mg ad) (hw : w.params = ad.pr) : MC P w K mg base 28 ad.Desk "say" ["self", "row"] (spSayJ K ad.Desk) := by
  have C_read_row := x_read_row (P := P) (w := w) (base := base) T hw
  have C_turned_bench := f_turned_bench (P := P) (w := w) (base := base) T
  refine T.ex.q_Desk_say.mc sc_Desk_say (fun _ _ _ _ _ _ => by2 fun _ _ => rfl) (fun vs H Q E h => ?_) (fun f cdv A outer s H vs Q E hr h => ?_)
  · obtain ⟨_, _, _, _, _, _, _, _, _, _, _, rfl, _⟩ := h; rfl
  obtain ⟨o, dx, d, q, x, y, z, S, n, a, b, rfl, dk, ⟨zq, hq⟩, n1, nx, ny, nz, sy, sz, ab, k⟩ := h
  refine ⟨_, (pss_cons (ps_if (pt_not (pt_val (pe_callB call_isiD rfl T.isinstance bt_isinstance (pa_name (pv 1) (pa_name (pe_bltn (v := .ty "str") rfl T.str bt_str rfl) pa_nil))))) (pss_one ps_never) pss_nil) (pss_cons (ps_set (i := 2) sc_Desk_say.nd rfl (Or.inl rfl) (pe_bm PySem.F.plainAttrs_str PySem.F.slot_str_split PySem.F.type_str_split mt_split (pv 1) (pa_const pe_str pa_nil))) (pss_cons (ps_if (pt_cmpR op_eq (pe_ix ix_list (pv 2) pe_int (fun _ _ => rfl)) pe_str (nomark _)) (pss_one (ps_ret (pe_mB (k := 26) (pv 0) (hr.mono (by decide)) (pa_name (pv 1) pa_nil)))) pss_nil) (pss_cons (ps_set (i := 3) sc_Desk_say.nd rfl (Or.inl rfl) (pe_cB C_read_row (hr.mono (by decide)) pass01 (pa_name (pv 2) pa_nil))) (pss_cons (ps_set (i := 4) sc_Desk_say.nd rfl (Or.inl rfl) (pe_ix ix_tup (pv 3) pe_int (fun _ _ => rfl))) (pss_cons (ps_if (pt_cmpR op_eq (pe_ix ix_list (pv 2) pe_int (fun _ _ => rfl)) pe_str (nomark _)) (pss_one (ps_ret (pe_mB (k := 6) (pv 0) (hr.mono (by decide)) (pa_sub (pe_ix ix_list (pv 4) pe_int (fun _ _ => rfl)) (pa_bin (pe_op op_cat (pe_mB (k := 1) (pv 0) (hr.mono (by decide)) (pa_sub (pe_ix ix_list (pv 4) pe_int (fun _ _ => rfl)) pa_nil)) (pe_mB (k := 1) (pv 0) (hr.mono (by decide)) (pa_sub (pe_ix ix_list (pv 4) pe_int (fun _ _ => rfl)) pa_nil))) pa_nil))))) pss_nil) (pss_cons (ps_if (pt_cmpR op_eq (pe_ix ix_list (pv 2) pe_int (fun _ _ => rfl)) pe_str (nomark _)) (pss_one (ps_ret (pe_mB (k := 6) (pv 0) (hr.mono (by decide)) (pa_sub (pe_ix ix_list (pv 4) pe_int (fun _ _ => rfl)) (pa_call (pe_cB C_turned_bench (hr.mono (by decide)) pass01 (pa_call (pe_mB (k := 1) (pv 0) (hr.mono (by decide)) (pa_sub (pe_ix ix_list (pv 4) pe_int (fun _ _ => rfl)) pa_nil)) pa_nil)) pa_nil))))) pss_nil) (pss_one (ps_ret (pe_callS pass01 (pe_dgetG (pe_glob (v := .ref ad.ANSWERS) rfl T.ex.m_ANSWERS rfl) (pe_ix ix_list (pv 2) pe_int (fun _ _ => rfl)) (fun _ _ => rfl)) (pa_call (pe_mB (k := 1) (pv 0) (hr.mono (by decide)) (pa_sub (pe_ix ix_list (pv 4) pe_int (fun _ _ => rfl)) pa_nil)) (pa_sub (pe_ix ix_tup (pv 3) pe_int (fun _ _ => rfl)) pa_nil)))))))))))), ?_⟩
  refine ⟨_, rfl, _, _, _, _, rfl, .str _, isStr_b _, _, rfl, iteF ?_⟩
  refine ⟨_, rfl, rfl, _, _, rfl, rfl, rfl, Nat.le_trans (Nat.add_le_add_right (len_J nx ny nz) 2) (by decide), fun wl hwl => ?_⟩
  have er : Txt.split (rowJ x y z) (PySem.Str.ofString " ") = [sOf "join", x, y, z] := split_J nx ny nz
  rw [er]
  have u1 := same_new hwl (.lst ([sOf "join", x, y, z].map V.str))
  have h1 : upd H wl (.lst ([sOf "join", x, y, z].map V.str)) wl = some (.lst ([sOf "join", x, y, z].map V.str)) := upd_same
  generalize upd H wl (.lst ([sOf "join", x, y, z].map V.str)) = H1 at u1 h1 ⊢
  refine ⟨_, rfl, wl, _, _, .str (sOf "join"), rfl, rfl, SqL.of h1, atI_nat (j := 0) rfl, rfl, _, rfl, iteF' (by rw [decS]; exact decide_eq_false (by decide +kernel)) ?_⟩
  refine ⟨_, rfl, wl, sOf "join", [x, y, z], rfl, h1, (fun t ht => by
    rcases List.mem_cons.mp ht with rfl | ht
    · exact nx
    rcases List.mem_cons.mp ht with rfl | ht
    · exact ny
    · rw [List.mem_singleton.mp ht]; exact nz), .inl ⟨rfl, rfl⟩, fun r l1 l2 H2 s2 hr2 hl2 => ?_⟩
  refine ⟨_, rfl, r, _, _, .ref l1, rfl, rfl, SqT.of hr2, atI_nat (j := 0) rfl, ?_⟩
  have h2 := s2 _ _ h1
  refine ⟨_, rfl, wl, _, _, .str (sOf "join"), rfl, rfl, SqL.of h2, atI_nat (j := 0) rfl, rfl, _, rfl, iteT' (by rw [decS]; exact decide_eq_true rfl) ?_⟩
  have u2 := u1.trans s2
  have dk2 := dk.keep u2
  refine ⟨_, rfl, o, _, dx, _, _, _, rfl, dk2.o, rfl, mc_keep T, _, rfl, l1, _, _, .str x, rfl, rfl, SqL.of hl2, atI_nat (j := 0) rfl, ?_⟩
  refine ⟨_, rfl, o, _, dx, _, _, _, rfl, dk2.o, rfl, mc_bench_by T, _, rfl, l1, _, _, .str y, rfl, rfl, SqL.of hl2, atI_nat (j := 1) rfl, o, dx, d, q, y, S, n, a, rfl, dk2, sy, fun la hla nla => ?_⟩
  refine ⟨_, rfl, o, _, dx, _, _, _, rfl, dk2.o, rfl, mc_bench_by T, _, rfl, l1, _, _, .str z, rfl, rfl, SqL.of hl2, atI_nat (j := 2) rfl, o, dx, d, q, z, S, n, b, rfl, dk2, sz, fun lb hlb nlb => ?_⟩
  obtain ⟨xa, ha1, ha2, ha3⟩ := hla
  obtain ⟨xb, hb1, hb2, hb3⟩ := hlb
  have okA := dk2.ok sy
  have okB := dk2.ok sz
  refine ⟨la, lb, xa, xb, rfl, rfl, ha1, hb1, Nat.le_trans (show xa.length + xb.length ≤ 60 by omega) (by decide), fun p hp => ?_⟩
  have u3 := same_new hp (.lst (xa ++ xb))
  have np : p ≠ q := fun e => by
    have := u2 _ _ hq
    rw [← e, hp] at this
    cases this
  refine ⟨o, dx, d, q, p, x, S, n, a ++ b, rfl, dk2.keep u3, n1, .of upd_same ?_, np, okA.app okB ab, fun H4 s4 dk4 => k H4 ((Lib.SD.ofSame (u2.trans u3)).trans s4) dk4⟩
  rw [List.map_append]
  exact (DVs.append ha2 hb2).keep u3
theorem mc_say_T (T : Txt K mg ad) (hw : w.params = ad.pr) : MC P w K mg base 28 ad.Desk "say" ["self", "row"] (spSayT K ad.Desk) := by
  have C_read_row := x_read_row (P := P) (w := w) (base := base) T hw
  have C_turned_bench := f_turned_bench (P := P) (w := w) (base := base) T
  refine T.ex.q_Desk_say.mc sc_Desk_say (fun _ _ _ _ _ _ => by2 fun _ _ => rfl) (fun vs H Q E h => ?_) (fun f cdv A outer s H vs Q E hr h => ?_)
  · obtain ⟨_, _, _, _, _, _, _, _, _, rfl, _⟩ := h; rfl
  obtain ⟨o, dx, d, q, x, y, S, n, a, rfl, dk, ⟨zq, hq⟩, n1, nx, ny, sy, k⟩ := h
  refine ⟨_, (pss_cons (ps_if (pt_not (pt_val (pe_callB call_isiD rfl T.isinstance bt_isinstance (pa_name (pv 1) (pa_name (pe_bltn (v := .ty "str") rfl T.str bt_str rfl) pa_nil))))) (pss_one ps_never) pss_nil) (pss_cons (ps_set (i := 2) sc_Desk_say.nd rfl (Or.inl rfl) (pe_bm PySem.F.plainAttrs_str PySem.F.slot_str_split PySem.F.type_str_split mt_split (pv 1) (pa_const pe_str pa_nil))) (pss_cons (ps_if (pt_cmpR op_eq (pe_ix ix_list (pv 2) pe_int (fun _ _ => rfl)) pe_str (nomark _)) (pss_one (ps_ret (pe_mB (k := 26) (pv 0) (hr.mono (by decide)) (pa_name (pv 1) pa_nil)))) pss_nil) (pss_cons (ps_set (i := 3) sc_Desk_say.nd rfl (Or.inl rfl) (pe_cB C_read_row (hr.mono (by decide)) pass01 (pa_name (pv 2) pa_nil))) (pss_cons (ps_set (i := 4) sc_Desk_say.nd rfl (Or.inl rfl) (pe_ix ix_tup (pv 3) pe_int (fun _ _ => rfl))) (pss_cons (ps_if (pt_cmpR op_eq (pe_ix ix_list (pv 2) pe_int (fun _ _ => rfl)) pe_str (nomark _)) (pss_one (ps_ret (pe_mB (k := 6) (pv 0) (hr.mono (by decide)) (pa_sub (pe_ix ix_list (pv 4) pe_int (fun _ _ => rfl)) (pa_bin (pe_op op_cat (pe_mB (k := 1) (pv 0) (hr.mono (by decide)) (pa_sub (pe_ix ix_list (pv 4) pe_int (fun _ _ => rfl)) pa_nil)) (pe_mB (k := 1) (pv 0) (hr.mono (by decide)) (pa_sub (pe_ix ix_list (pv 4) pe_int (fun _ _ => rfl)) pa_nil))) pa_nil))))) pss_nil) (pss_cons (ps_if (pt_cmpR op_eq (pe_ix ix_list (pv 2) pe_int (fun _ _ => rfl)) pe_str (nomark _)) (pss_one (ps_ret (pe_mB (k := 6) (pv 0) (hr.mono (by decide)) (pa_sub (pe_ix ix_list (pv 4) pe_int (fun _ _ => rfl)) (pa_call (pe_cB C_turned_bench (hr.mono (by decide)) pass01 (pa_call (pe_mB (k := 1) (pv 0) (hr.mono (by decide)) (pa_sub (pe_ix ix_list (pv 4) pe_int (fun _ _ => rfl)) pa_nil)) pa_nil)) pa_nil))))) pss_nil) (pss_one (ps_ret (pe_callS pass01 (pe_dgetG (pe_glob (v := .ref ad.ANSWERS) rfl T.ex.m_ANSWERS rfl) (pe_ix ix_list (pv 2) pe_int (fun _ _ => rfl)) (fun _ _ => rfl)) (pa_call (pe_mB (k := 1) (pv 0) (hr.mono (by decide)) (pa_sub (pe_ix ix_list (pv 4) pe_int (fun _ _ => rfl)) pa_nil)) (pa_sub (pe_ix ix_tup (pv 3) pe_int (fun _ _ => rfl)) pa_nil)))))))))))), ?_⟩
  refine ⟨_, rfl, _, _, _, _, rfl, .str _, isStr_b _, _, rfl, iteF ?_⟩
  refine ⟨_, rfl, rfl, _, _, rfl, rfl, rfl, Nat.le_trans (Nat.add_le_add_right (len_T nx ny) 2) (by decide), fun wl hwl => ?_⟩
  have er : Txt.split (rowT x y) (PySem.Str.ofString " ") = [sOf "turn", x, y] := split_T nx ny
  rw [er]
  have u1 := same_new hwl (.lst ([sOf "turn", x, y].map V.str))
  have h1 : upd H wl (.lst ([sOf "turn", x, y].map V.str)) wl = some (.lst ([sOf "turn", x, y].map V.str)) := upd_same
  generalize upd H wl (.lst ([sOf "turn", x, y].map V.str)) = H1 at u1 h1 ⊢
  refine ⟨_, rfl, wl, _, _, .str (sOf "turn"), rfl, rfl, SqL.of h1, atI_nat (j := 0) rfl, rfl, _, rfl, iteF' (by rw [decS]; exact decide_eq_false (by decide +kernel)) ?_⟩
  refine ⟨_, rfl, wl, sOf "turn", [x, y], rfl, h1, (fun t ht => by
    rcases List.mem_cons.mp ht with rfl | ht
    · exact nx
    · rw [List.mem_singleton.mp ht]; exact ny), .inr (.inl ⟨rfl, rfl⟩), fun r l1 l2 H2 s2 hr2 hl2 => ?_⟩
  refine ⟨_, rfl, r, _, _, .ref l1, rfl, rfl, SqT.of hr2, atI_nat (j := 0) rfl, ?_⟩
  have h2 := s2 _ _ h1
  refine ⟨_, rfl, wl, _, _, .str (sOf "turn"), rfl, rfl, SqL.of h2, atI_nat (j := 0) rfl, rfl, _, rfl, iteF' (by rw [decS]; exact decide_eq_false (by decide +kernel)) ?_⟩
  refine ⟨_, rfl, wl, _, _, .str (sOf "turn"), rfl, rfl, SqL.of h2, atI_nat (j := 0) rfl, rfl, _, rfl, iteT' (by rw [decS]; exact decide_eq_true rfl) ?_⟩
  have u2 := u1.trans s2
  have dk2 := dk.keep u2
  refine ⟨_, rfl, o, _, dx, _, _, _, rfl, dk2.o, rfl, mc_keep T, _, rfl, l1, _, _, .str x, rfl, rfl, SqL.of hl2, atI_nat (j := 0) rfl, ?_⟩
  refine ⟨_, rfl, o, _, dx, _, _, _, rfl, dk2.o, rfl, mc_bench_by T, _, rfl, l1, _, _, .str y, rfl, rfl, SqL.of hl2, atI_nat (j := 1) rfl, o, dx, d, q, y, S, n, a, rfl, dk2, sy, fun la hla nla => ?_⟩
  refine ⟨_, a, rfl, hla.dv, dk2.ok sy, fun l xs H3 s3 nl hl hxs => ?_⟩
  have np : l ≠ q := fun e => by
    have := u2 _ _ hq
    rw [← e, nl] at this
    cases this
  exact ⟨o, dx, d, q, l, x, S, n, a.reverse, rfl, dk2.keep s3, n1, .of hl hxs, np, (dk2.ok sy).rev, fun H4 s4 dk4 => k H4 ((Lib.SD.ofSame (u2.trans s3)).trans s4) dk4⟩
theorem mc_say_S (T : Txt K mg ad) (hw : w.params = ad.pr) : MC P w K mg base 28 ad.Desk "say" ["self", "row"] (spSayS K ad.Desk) := by
  have C_read_row := x_read_row (P := P) (w := w) (base := base) T hw
  have C_turned_bench := f_turned_bench (P := P) (w := w) (base := base) T
  refine T.ex.q_Desk_say.mc sc_Desk_say (fun _ _ _ _ _ _ => by2 fun _ _ => rfl) (fun vs H Q E h => ?_) (fun f cdv A outer s H vs Q E hr h => ?_)
  · obtain ⟨_, _, _, _, _, _, _, _, rfl, _⟩ := h; rfl
  obtain ⟨o, dx, d, q, x, S, n, a, rfl, dk, nx, sx, k⟩ := h
  refine ⟨_, (pss_cons (ps_if (pt_not (pt_val (pe_callB call_isiD rfl T.isinstance bt_isinstance (pa_name (pv 1) (pa_name (pe_bltn (v := .ty "str") rfl T.str bt_str rfl) pa_nil))))) (pss_one ps_never) pss_nil) (pss_cons (ps_set (i := 2) sc_Desk_say.nd rfl (Or.inl rfl) (pe_bm PySem.F.plainAttrs_str PySem.F.slot_str_split PySem.F.type_str_split mt_split (pv 1) (pa_const pe_str pa_nil))) (pss_cons (ps_if (pt_cmpR op_eq (pe_ix ix_list (pv 2) pe_int (fun _ _ => rfl)) pe_str (nomark _)) (pss_one (ps_ret (pe_mB (k := 26) (pv 0) (hr.mono (by decide)) (pa_name (pv 1) pa_nil)))) pss_nil) (pss_cons (ps_set (i := 3) sc_Desk_say.nd rfl (Or.inl rfl) (pe_cB C_read_row (hr.mono (by decide)) pass01 (pa_name (pv 2) pa_nil))) (pss_cons (ps_set (i := 4) sc_Desk_say.nd rfl (Or.inl rfl) (pe_ix ix_tup (pv 3) pe_int (fun _ _ => rfl))) (pss_cons (ps_if (pt_cmpR op_eq (pe_ix ix_list (pv 2) pe_int (fun _ _ => rfl)) pe_str (nomark _)) (pss_one (ps_ret (pe_mB (k := 6) (pv 0) (hr.mono (by decide)) (pa_sub (pe_ix ix_list (pv 4) pe_int (fun _ _ => rfl)) (pa_bin (pe_op op_cat (pe_mB (k := 1) (pv 0) (hr.mono (by decide)) (pa_sub (pe_ix ix_list (pv 4) pe_int (fun _ _ => rfl)) pa_nil)) (pe_mB (k := 1) (pv 0) (hr.mono (by decide)) (pa_sub (pe_ix ix_list (pv 4) pe_int (fun _ _ => rfl)) pa_nil))) pa_nil))))) pss_nil) (pss_cons (ps_if (pt_cmpR op_eq (pe_ix ix_list (pv 2) pe_int (fun _ _ => rfl)) pe_str (nomark _)) (pss_one (ps_ret (pe_mB (k := 6) (pv 0) (hr.mono (by decide)) (pa_sub (pe_ix ix_list (pv 4) pe_int (fun _ _ => rfl)) (pa_call (pe_cB C_turned_bench (hr.mono (by decide)) pass01 (pa_call (pe_mB (k := 1) (pv 0) (hr.mono (by decide)) (pa_sub (pe_ix ix_list (pv 4) pe_int (fun _ _ => rfl)) pa_nil)) pa_nil)) pa_nil))))) pss_nil) (pss_one (ps_ret (pe_callS pass01 (pe_dgetG (pe_glob (v := .ref ad.ANSWERS) rfl T.ex.m_ANSWERS rfl) (pe_ix ix_list (pv 2) pe_int (fun _ _ => rfl)) (fun _ _ => rfl)) (pa_call (pe_mB (k := 1) (pv 0) (hr.mono (by decide)) (pa_sub (pe_ix ix_list (pv 4) pe_int (fun _ _ => rfl)) pa_nil)) (pa_sub (pe_ix ix_tup (pv 3) pe_int (fun _ _ => rfl)) pa_nil)))))))))))), ?_⟩
  refine ⟨_, rfl, _, _, _, _, rfl, .str _, isStr_b _, _, rfl, iteF ?_⟩
  refine ⟨_, rfl, rfl, _, _, rfl, rfl, rfl, Nat.le_trans (Nat.add_le_add_right (len_S nx) 2) (by decide), fun wl hwl => ?_⟩
  have er : Txt.split (rowS x) (PySem.Str.ofString " ") = [sOf "show", x] := split_S nx
  rw [er]
  have u1 := same_new hwl (.lst ([sOf "show", x].map V.str))
  have h1 : upd H wl (.lst ([sOf "show", x].map V.str)) wl = some (.lst ([sOf "show", x].map V.str)) := upd_same
  generalize upd H wl (.lst ([sOf "show", x].map V.str)) = H1 at u1 h1 ⊢
  refine ⟨_, rfl, wl, _, _, .str (sOf "show"), rfl, rfl, SqL.of h1, atI_nat (j := 0) rfl, rfl, _, rfl, iteF' (by rw [decS]; exact decide_eq_false (by decide +kernel)) ?_⟩
  refine ⟨_, rfl, wl, sOf "show", [x], rfl, h1, (fun t ht => by rw [List.mem_singleton.mp ht]; exact nx), .inr (.inr ⟨rfl, rfl⟩), fun r l1 l2 H2 s2 hr2 hl2 => ?_⟩
  refine ⟨_, rfl, r, _, _, .ref l1, rfl, rfl, SqT.of hr2, atI_nat (j := 0) rfl, ?_⟩
  have h2 := s2 _ _ h1
  refine ⟨_, rfl, wl, _, _, .str (sOf "show"), rfl, rfl, SqL.of h2, atI_nat (j := 0) rfl, rfl, _, rfl, iteF' (by rw [decS]; exact decide_eq_false (by decide +kernel)) ?_⟩
  refine ⟨_, rfl, wl, _, _, .str (sOf "show"), rfl, rfl, SqL.of h2, atI_nat (j := 0) rfl, rfl, _, rfl, iteF' (by rw [decS]; exact decide_eq_false (by decide +kernel)) ?_⟩
  have u2 := u1.trans s2
  have dk2 := dk.keep u2
  obtain ⟨fA, fdA, FA, hmA, hkA, hbA⟩ := (x_show_answer (P := P) (w := w) (base := base) T).ex
  obtain rfl : fA = ad.ANSWERS_show := by
    have := hmA.symm.trans T.ex.f_ANSWERS_show
    injection this with this
    injection this
  refine ⟨_, rfl, wl, _, _, .str (sOf "show"), rfl, rfl, SqL.of h2, atI_nat (j := 0) rfl, ad.ANSWERS, _, .inr (sOf "show"), .ref ad.ANSWERS_show, rfl, T.ex.g_ANSWERS _ _ hw, rfl, (by unfold valV dkS; rfl), ad.ANSWERS_show, fdA, 6, _, _, rfl, FA, hkA, hbA, hr.mono (by decide), ?_⟩
  refine ⟨_, rfl, o, _, dx, _, _, _, rfl, dk2.o, rfl, mc_bench_by T, _, rfl, l1, _, _, .str x, rfl, rfl, SqL.of hl2, atI_nat (j := 0) rfl, o, dx, d, q, x, S, n, a, rfl, dk2, sx, fun la hla nla => ?_⟩
  refine ⟨_, rfl, r, _, _, .ref l2, rfl, rfl, SqT.of hr2, atI_nat (j := 1) rfl, _, _, a, rfl, hla.dv, dk2.ok sx, fun H3 s3 => k H3 (u2.trans s3)⟩
theorem mx_say (T : Txt K mg ad) (hw : w.params = ad.pr) : MC P w K mg base 28 ad.Desk "say" ["self", "row"] (spSayX K ad.Desk ad.Unknown) := by
  have C_read_row := x_read_row (P := P) (w := w) (base := base) T hw
  have C_turned_bench := f_turned_bench (P := P) (w := w) (base := base) T
  refine T.ex.q_Desk_say.mcR sc_Desk_say (fun _ _ _ _ _ _ => by2 fun _ _ => rfl) (fun vs H Q E h => ?_) (fun f cdv A outer s H vs Q E hr h => ?_)
  · obtain ⟨_, _, _, _, _, _, _, rfl, _⟩ := h; rfl
  obtain ⟨o, dx, d, q, x, S, n, rfl, dk, nx, sx, k⟩ := h
  refine ⟨_, (pss_cons (ps_if (pt_not (pt_val (pe_callB call_isiD rfl T.isinstance bt_isinstance (pa_name (pv 1) (pa_name (pe_bltn (v := .ty "str") rfl T.str bt_str rfl) pa_nil))))) (pss_one ps_never) pss_nil) (pss_cons (ps_set (i := 2) sc_Desk_say.nd rfl (Or.inl rfl) (pe_bm PySem.F.plainAttrs_str PySem.F.slot_str_split PySem.F.type_str_split mt_split (pv 1) (pa_const pe_str pa_nil))) (pss_cons (ps_if (pt_cmpR op_eq (pe_ix ix_list (pv 2) pe_int (fun _ _ => rfl)) pe_str (nomark _)) (pss_one (ps_ret (pe_mX (k := 26) (passes1 bodyB) (pv 0) (hr.mono (by decide)) (pa_name (pv 1) pa_nil)))) pss_nil) (pss_cons (ps_set (i := 3) sc_Desk_say.nd rfl (Or.inl rfl) (pe_cB C_read_row (hr.mono (by decide)) (passes1 bodyB) (pa_name (pv 2) pa_nil))) (pss_cons (ps_set (i := 4) sc_Desk_say.nd rfl (Or.inl rfl) (pe_ix ix_tup (pv 3) pe_int (fun _ _ => rfl))) (pss_cons (ps_if (pt_cmpR op_eq (pe_ix ix_list (pv 2) pe_int (fun _ _ => rfl)) pe_str (nomark _)) (pss_one (ps_ret (pe_mX (k := 6) (passes1 bodyB) (pv 0) (hr.mono (by decide)) (pa_sub (pe_ix ix_list (pv 4) pe_int (fun _ _ => rfl)) (pa_bin (pe_op op_cat (pe_mX (k := 1) (passes1 bodyB) (pv 0) (hr.mono (by decide)) (pa_sub (pe_ix ix_list (pv 4) pe_int (fun _ _ => rfl)) pa_nil)) (pe_mX (k := 1) (passes1 bodyB) (pv 0) (hr.mono (by decide)) (pa_sub (pe_ix ix_list (pv 4) pe_int (fun _ _ => rfl)) pa_nil))) pa_nil))))) pss_nil) (pss_cons (ps_if (pt_cmpR op_eq (pe_ix ix_list (pv 2) pe_int (fun _ _ => rfl)) pe_str (nomark _)) (pss_one (ps_ret (pe_mX (k := 6) (passes1 bodyB) (pv 0) (hr.mono (by decide)) (pa_sub (pe_ix ix_list (pv 4) pe_int (fun _ _ => rfl)) (pa_call (pe_cB C_turned_bench (hr.mono (by decide)) (passes1 bodyB) (pa_call (pe_mX (k := 1) (passes1 bodyB) (pv 0) (hr.mono (by decide)) (pa_sub (pe_ix ix_list (pv 4) pe_int (fun _ _ => rfl)) pa_nil)) pa_nil)) pa_nil))))) pss_nil) (pss_one (ps_ret (pe_callS (passes1 bodyB) (pe_dgetG (pe_glob (v := .ref ad.ANSWERS) rfl T.ex.m_ANSWERS rfl) (pe_ix ix_list (pv 2) pe_int (fun _ _ => rfl)) (fun _ _ => rfl)) (pa_call (pe_mX (k := 1) (passes1 bodyB) (pv 0) (hr.mono (by decide)) (pa_sub (pe_ix ix_list (pv 4) pe_int (fun _ _ => rfl)) pa_nil)) (pa_sub (pe_ix ix_tup (pv 3) pe_int (fun _ _ => rfl)) pa_nil)))))))))))), ?_⟩
  refine ⟨_, rfl, _, _, _, _, rfl, .str _, isStr_b _, _, rfl, iteF ?_⟩
  refine ⟨_, rfl, rfl, _, _, rfl, rfl, rfl, Nat.le_trans (Nat.add_le_add_right (len_S nx) 2) (by decide), fun wl hwl => ?_⟩
  have er : Txt.split (rowS x) (PySem.Str.ofString " ") = [sOf "show", x] := split_S nx
  rw [er]
  have u1 := same_new hwl (.lst ([sOf "show", x].map V.str))
  have h1 : upd H wl (.lst ([sOf "show", x].map V.str)) wl = some (.lst ([sOf "show", x].map V.str)) := upd_same
  generalize upd H wl (.lst ([sOf "show", x].map V.str)) = H1 at u1 h1 ⊢
  refine ⟨_, rfl, wl, _, _, .str (sOf "show"), rfl, rfl, SqL.of h1, atI_nat (j := 0) rfl, rfl, _, rfl, iteF' (by rw [decS]; exact decide_eq_false (by decide +kernel)) ?_⟩
  refine ⟨_, rfl, wl, sOf "show", [x], rfl, h1, (fun t ht => by rw [List.mem_singleton.mp ht]; exact nx), .inr (.inr ⟨rfl, rfl⟩), fun r l1 l2 H2 s2 hr2 hl2 => ?_⟩
  refine ⟨_, rfl, r, _, _, .ref l1, rfl, rfl, SqT.of hr2, atI_nat (j := 0) rfl, ?_⟩
  have h2 := s2 _ _ h1
  refine ⟨_, rfl, wl, _, _, .str (sOf "show"), rfl, rfl, SqL.of h2, atI_nat (j := 0) rfl, rfl, _, rfl, iteF' (by rw [decS]; exact decide_eq_false (by decide +kernel)) ?_⟩
  refine ⟨_, rfl, wl, _, _, .str (sOf "show"), rfl, rfl, SqL.of h2, atI_nat (j := 0) rfl, rfl, _, rfl, iteF' (by rw [decS]; exact decide_eq_false (by decide +kernel)) ?_⟩
  have u2 := u1.trans s2
  have dk2 := dk.keep u2
  obtain ⟨fA, fdA, FA, hmA, hkA, hbA⟩ := (x_show_answer (P := P) (w := w) (base := base) T).ex
  obtain rfl : fA = ad.ANSWERS_show := by
    have := hmA.symm.trans T.ex.f_ANSWERS_show
    injection this with this
    injection this
  refine ⟨_, rfl, wl, _, _, .str (sOf "show"), rfl, rfl, SqL.of h2, atI_nat (j := 0) rfl, ad.ANSWERS, _, .inr (sOf "show"), .ref ad.ANSWERS_show, rfl, T.ex.g_ANSWERS _ _ hw, rfl, (by unfold valV dkS; rfl), ad.ANSWERS_show, fdA, 6, _, _, rfl, FA, hkA, hbA, hr.mono (by decide), ?_⟩
  exact ⟨_, rfl, o, _, dx, _, _, _, rfl, dk2.o, rfl, mx_bench_by T, _, rfl, l1, _, _, .str x, rfl, rfl, SqL.of hl2, atI_nat (j := 0) rfl, o, dx, d, q, x, S, n, rfl, dk2, sx, k H2 u2⟩
end
end K72
namespace K72
open PySem L2 Lib Fr Op
seal PE PT PW PA PS PSs PG PGs PI PO PIfs
local macro_rules | `(tactic| walk_at "Zs") => `(tactic| first | with_reducible assumption | with_reducible exact Same.refl _ | exact zs1 (by with_reducible assumption) (by walk_at "Zs") | exact zs2 (by with_reducible assumption) (by walk_at "Zs"))
local macro_rules | `(tactic| walk_at "Zd") => `(tactic| first | with_reducible assumption | with_reducible exact DV.int _ | with_reducible exact DV.str _ | with_reducible exact DV.bl _ | with_reducible exact DV.non | exact zd1 (by first | with_reducible assumption | assumption) (by walk_at "Zs") | with_reducible exact dN (by assumption) _ | with_reducible exact dO (by assumption) _ | exact zd2 (by with_reducible assumption) (by walk_at "Zs") (by walk_at "Zd") (by walk_at "Zd") | exact zd3 (by with_reducible assumption) (by walk_at "Zs") (by walk_at "Zd") (by walk_at "Zd") (by walk_at "Zd") | exact zd4 (by with_reducible assumption) (by walk_at "Zs") (by walk_at "Zd") (by walk_at "Zd") (by walk_at "Zd") (by walk_at "Zd"))
local macro_rules | `(tactic| walk_at "Zt") => `(tactic| first | assumption | exact zt1 (by assumption) (by walk_at "Zs") | exact zt2 (by walk_at "Zs"))
local macro_rules | `(tactic| walk_at "Zl") => `(tactic| first | assumption | exact zl1 (by assumption) (by walk_at "Zs") | exact zl2 (by walk_at "Zs"))
local macro_rules | `(tactic| walk_at "Zv") => `(tactic| first | exact DVs.nil | exact DVs.cons (by walk_at "Zd") (by walk_at "Zv"))
local macro_rules | `(tactic| walk_at "Zb") => `(tactic| first | with_reducible assumption | exact bd_zero 1 (by decide) | exact bd_one 1 (by decide) | with_reducible exact Bd.mul (by walk_at "Zb") (by walk_at "Zb") | with_reducible exact Bd.add (by walk_at "Zb") (by walk_at "Zb") | with_reducible exact Bd.sub (by walk_at "Zb") (by walk_at "Zb") | with_reducible exact Tb.a (by with_reducible assumption) | with_reducible exact Tb.b (by with_reducible assumption) | with_reducible exact Tb.c (by with_reducible assumption) | with_reducible exact Tb.d (by with_reducible assumption) | with_reducible exact Rb.y (by with_reducible assumption) | with_reducible exact Rb.u (by with_reducible assumption))
local macro_rules | `(tactic| walk_at "Zm") => `(tactic| first | with_reducible assumption | with_reducible exact Sm.zero | with_reducible exact Sm.one | exact Bd.sm (by walk_at "Zb") (by first | decide | omega))
local macro_rules | `(tactic| walk_at "Zr") => `(tactic| first | exact ⟨_, _, rfl, by walk_at "Zm", by walk_at "Zm", rfl⟩ | exact ⟨_, _, rfl, by walk_at "Zm", by walk_at "Zm", by assumption, rfl⟩)
local macro_rules | `(tactic| walk_at "Zc") => `(tactic| (refine ⟨_, _, by walk_at "Zv", by walk_at "Zr", fun v H' s hv => ?_⟩; (first | (obtain rfl := DV.bl_of hv) | (have := (show DV _ _ _ (frD _) from hv); clear this) | (obtain ⟨a, x1, x2, x3, x4, rfl, ha, h1, h2, h3, h4⟩ := DV.t4 hv) | (obtain ⟨a, x1, x2, x3, rfl, ha, h1, h2, h3⟩ := DV.t3 hv) | (obtain ⟨a, x1, x2, rfl, ha, h1, h2⟩ := DV.t2 hv) | skip)))
local macro_rules | `(tactic| walk_at "Zp") => `(tactic| first | refine ⟨by (show 2 ≤ sizeLine; decide), fun p hp => ?_⟩ | refine ⟨by (show 3 ≤ sizeLine; decide), fun p hp => ?_⟩ | refine ⟨by (show 4 ≤ sizeLine; decide), fun p hp => ?_⟩)
local macro_rules | `(tactic| walk_at "Zn") => `(tactic| first | refine ⟨_, rfl, ?_⟩ | refine ⟨_, _, _, _, rfl, rfl, by walk_at "Zt", by rfl, ?_⟩ | refine ⟨_, _, rfl, rfl, ?_⟩)
local macro_rules | `(tactic| walk_at "Z1") => `(tactic| first | walk_at "Zn" | walk_at "Zp" | walk_at "Zc" | refine iteF ?_ | refine iteT ?_)
local macro_rules | `(tactic| walk_at "Z") => `(tactic| repeat walk_at "Z1")
section
variable {P : Program} {w : World} {K : PySem.W.Frag} {mg : Str → Option Value} {base : Heap} {ad : Adr} {c : Bool}
theorem c__law_plus (T : Txt K mg ad) : CalB P w K mg base true 3 "_law_plus" ["_law_one", "_law_other"] (PR K (RBin fun p q => p + q)) := by
  have C__law_low := c__law_low (P := P) (w := w) (base := base) T
  refine T.t__law_plus.calN sc__law_plus (fun _ _ _ _ _ _ => by2 fun _ _ => rfl) (fun vs H Q E h => ?_) (fun f cdv A outer s H vs Q E hr h => ?_)
  · obtain ⟨_, _, dv, ⟨_, _, rfl, _⟩, _⟩ := h; exact dv.len
  obtain ⟨_, _, dv, ⟨p, q, rfl, sp, sq, rfl⟩, k⟩ := h
  obtain ⟨_, _, rfl, hx, hy⟩ := dv.two
  obtain ⟨a, rfl, ha⟩ := hx.fr
  obtain ⟨b, rfl, hb⟩ := hy.fr
  refine ⟨_, (pss_one (ps_ret (pe_cB C__law_low (hr.mono (by decide)) pass01 (pa_bin (pe_op op_add (pe_op op_mulW (pe_ix ix_tup (pv 0) pe_int (fun _ _ => rfl)) (pe_ix ix_tup (pv 1) pe_int (fun _ _ => rfl))) (pe_op op_mulW (pe_ix ix_tup (pv 1) pe_int (fun _ _ => rfl)) (pe_ix ix_tup (pv 0) pe_int (fun _ _ => rfl)))) (pa_bin (pe_op op_mulW (pe_ix ix_tup (pv 0) pe_int (fun _ _ => rfl)) (pe_ix ix_tup (pv 1) pe_int (fun _ _ => rfl))) pa_nil))))), ?_⟩
  refine ⟨_, rfl, a, _, _, _, rfl, rfl, ha, rfl, _, rfl, b, _, _, _, rfl, rfl, hb, rfl, _, _, rfl, rfl, mulW sp.n sq.dn, ?_⟩
  refine ⟨_, rfl, b, _, _, _, rfl, rfl, hb, rfl, _, rfl, a, _, _, _, rfl, rfl, ha, rfl, _, _, rfl, rfl, mulW sq.n sp.dn, _, _, rfl, rfl, ?_⟩
  refine ⟨_, rfl, a, _, _, _, rfl, rfl, ha, rfl, _, rfl, b, _, _, _, rfl, rfl, hb, rfl, _, _, rfl, rfl, mulW sp.dn sq.dn, ?_⟩
  refine ⟨_, _, rfl, Int.mul_pos (denp p) (denp q), mul_lim sp.dn sq.dn, fun r hr => k _ _ (same_new hr _) ?_⟩
  have e := dv_low (K := K) (H := H) (t := p.num * (q.den : Int) + q.num * (p.den : Int)) (b := (p.den : Int) * (q.den : Int)) (p := r) (den_mul0 p q)
  rw [Fr.sum_rat] at e
  exact e
theorem c__law_less (T : Txt K mg ad) : CalB P w K mg base true 4 "_law_less" ["_law_one", "_law_other"] (PR K (RBin fun p q => p - q)) := by
  have C__law_plus := c__law_plus (P := P) (w := w) (base := base) T
  refine T.t__law_less.calN sc__law_less (fun _ _ _ _ _ _ => by2 fun _ _ => rfl) (fun vs H Q E h => ?_) (fun f cdv A outer s H vs Q E hr h => ?_)
  · obtain ⟨_, _, dv, ⟨_, _, rfl, _⟩, _⟩ := h; exact dv.len
  obtain ⟨_, _, dv, ⟨p, q, rfl, sp, sq, rfl⟩, k⟩ := h
  obtain ⟨_, _, rfl, hx, hy⟩ := dv.two
  obtain ⟨b, rfl, hb⟩ := hy.fr
  refine ⟨_, (pss_one (ps_ret (pe_cB C__law_plus (hr.mono (by decide)) pass01 (pa_name (pv 0) (pa_tuple (pe_tup (pa_bin (pe_op op_sub pe_int (pe_ix ix_tup (pv 1) pe_int (fun _ _ => rfl))) (pa_sub (pe_ix ix_tup (pv 1) pe_int (fun _ _ => rfl)) pa_nil))) pa_nil))))), ?_⟩
  refine ⟨_, rfl, _, rfl, b, _, _, _, rfl, rfl, hb, rfl, _, _, rfl, rfl, _, rfl, b, _, _, _, rfl, rfl, hb, rfl, (by show 2 ≤ sizeLine; decide), fun p2 hp2 => ?_⟩
  have s0 := same_new hp2 (.tup [.int (0 - q.num), .int (q.den : Int)])
  have dn : DV K (upd H p2 (.tup [.int (0 - q.num), .int (q.den : Int)])) (.ref p2) (frD (-q)) := by
    rw [frD_neg]
    exact .tup (SqT.of upd_same) (.cons (.int _) (.cons (.int _) .nil))
  refine ⟨_, _, .cons (hx.keep s0) (.cons dn .nil), ⟨_, _, rfl, sp, sq.neg, rfl⟩, fun v H1 s1 hv => k _ _ (s0.trans s1) ?_⟩
  have e : p + -q = p - q := (Rat.sub_eq_add_neg p q).symm
  show DV K H1 v (frD (p - q))
  rw [← e]
  exact hv
end
end K72
namespace K72
open PySem L2 Lib Fr Op Tx PySem.NumText
seal PE PT PW PA PS PSs PG PGs PI PO PIfs PJ
section
variable {P : Program} {w : World} {K : PySem.W.Frag} {mg : PySem.Str → Option Value} {base : Heap} {ad : Adr} {c : Bool}
theorem c__law_called (T : Txt K mg ad) : CalB P w K mg base true 1 "_law_called" ["_law_number", "_law_k"] spCalled := by
  refine T.t__law_called.calN sc__law_called (fun _ _ _ _ _ _ => by2 fun _ _ => rfl) (fun vs H Q E h => ?_) (fun f cdv A outer s H vs Q E hr h => ?_)
  · obtain ⟨_, _, rfl, _⟩ := h; rfl
  obtain ⟨z, i, rfl, z0, z1, i0, i3, q⟩ := h
  refine ⟨_, (pss_cons (ps_set (i := 2) sc__law_called.nd rfl (Or.inl rfl) (pe_item_str pe_str (pe_op op_mod (pe_op op_add (pe_op op_fdiv (pv 0) pe_int) (pe_op op_mul pe_int (pv 1))) pe_int) (fun _ _ => rfl))) (pss_cons (ps_if (pt_cmpR op_eq (pe_op op_mod (pv 0) pe_int) pe_int (nomark _)) (pss_one (ps_ret (pe_op op_mul_str pe_str (pe_op op_add pe_int (pv 1))))) pss_nil) (pss_cons (ps_set (i := 3) sc__law_called.nd rfl (Or.inl rfl) (pe_op op_mod (pe_op op_fdiv (pv 0) pe_int) pe_int)) (pss_one (ps_ret (pe_op op_add_str (pe_op op_add_str (pe_slice sl_str pe_str po_none (po_some (pv 3))) (pv 2)) (pe_slice sl_str pe_str (po_some (pv 3)) (po_some (pe_op op_add (pv 3) (pe_op op_mod (pv 0) pe_int)))))))))), ?_⟩
  have hl := ltr_at ⟨((z / 24 + 5 * i) % 26).toNat, by omega⟩
  have ll := len_lens ⟨(z / 3 % 5).toNat, by omega⟩ ⟨(z % 4).toNat, by omega⟩
  have e2 : (((z / 3 % 5).toNat : Nat) : Int) = z / 3 % 5 := by omega
  have e3 : (((z % 4).toNat : Nat) : Int) = z % 4 := by omega
  simp only [e2, e3] at ll
  refine ⟨_, rfl, _, _, rfl, rfl, ⟨(by show (0 : Int) < 24; decide), (by show (24 : Int) < 1073741824; decide)⟩, _, rfl, _, _, rfl, rfl, .inl ⟨by decide, by omega⟩, _, _, rfl, rfl, _, _, rfl, rfl, (by show (0 : Int) < 26; decide), ?_⟩
  refine ⟨_, _, _, rfl, rfl, by omega, by omega, ?_, hl, ?_⟩
  · show (z / 24 + 5 * i) % 26 < ((PySem.Str.ofString "abcdefghijklmnopqrstuvwxyz").length : Int)
    rw [show (PySem.Str.ofString "abcdefghijklmnopqrstuvwxyz").length = 26 by decide +kernel]
    omega
  refine ⟨_, rfl, _, _, rfl, rfl, (by show (0 : Int) < 3; decide), rfl, _, rfl, ?_⟩
  by_cases hz : z % 3 = 0
  · refine iteT' (by rw [decI]; exact decide_eq_true hz) ⟨_, rfl, _, _, rfl, rfl, _, _, rfl, rfl, ?_, ?_⟩
    · have h3 : i = 0 ∨ i = 1 ∨ i = 2 := by omega
      rcases h3 with rfl | rfl | rfl
      · exact ⟨by decide, fun _ h => absurd h (by decide), fun _ h => absurd h (by decide)⟩
      · exact ⟨by decide, fun _ _ => by decide, fun _ _ => by decide⟩
      · exact ⟨by decide, fun _ _ => by decide, fun _ _ => by decide⟩
    · have e : called z i = Txt.mul (PySem.Str.ofString "m") (1 + i) := if_pos hz
      rw [← e]
      exact q
  · refine iteF' (by rw [decI]; exact decide_eq_false hz) ?_
    have e : called z i = nmI ((z / 24 + 5 * i) % 26) (z / 3 % 5) (z % 4) := if_neg hz
    rw [e] at q
    have l4 : (PySem.Str.ofString "lens").length ≤ sizeLine := by decide +kernel
    refine ⟨_, rfl, _, _, rfl, rfl, ⟨(by show (0 : Int) < 3; decide), (by show (3 : Int) < 1073741824; decide)⟩, _, _, rfl, rfl, (by show (0 : Int) < 5; decide), ?_⟩
    refine ⟨_, rfl, _, rfl, _, rfl, l4, _, rfl, _, _, rfl, rfl, ?_, ?_⟩
    · exact Nat.le_trans (show _ + 1 ≤ 5 by omega) (by decide)
    refine ⟨_, rfl, _, rfl, _, rfl, _, rfl, _, _, rfl, rfl, (by show (0 : Int) < 4; decide), _, _, rfl, rfl, _, rfl, _, rfl, l4, _, _, rfl, rfl, ?_, q⟩
    refine Nat.le_trans (m := 9) ?_ (by decide)
    rw [← Lib.lenD, cl_app, List.length_append, Lib.lenD, Lib.lenD]
    show _ + 1 + _ ≤ 9
    omega
theorem c__law_benches (T : Txt K mg ad) : CalB P w K mg base true 6 "_law_benches" ["_law_drawn_here", "_law_many", "_law_least"] (spBns K) := by
  have C__law_draw := c__law_draw (P := P) (w := w) (base := base) T
  have C__law_piece := c__law_piece (P := P) (w := w) (base := base) T
  have C__law_less := c__law_less (P := P) (w := w) (base := base) T
  have C__law_plus := c__law_plus (P := P) (w := w) (base := base) T
  refine T.t__law_benches.calN sc__law_benches (fun _ _ _ _ _ _ => by3 fun _ _ _ => rfl) (fun vs H Q E h => ?_) (fun f cdv A outer s H vs Q E hr h => ?_)
  · obtain ⟨_, _, _, rfl, _⟩ := h; rfl
  obtain ⟨d, c, L, rfl, hd, q⟩ := h
  refine ⟨_, (pss_cons (ps_set (i := 3) sc__law_benches.nd rfl (Or.inl rfl) (pe_lst pa_nil)) (pss_cons (ps_for PassesOwn.never rfl (pi_range1 rfl T.range (pa_name (pv 1) pa_nil)) (pg_name (i := 4) sc__law_benches.nd rfl (by first | exact Or.inl rfl | exact Or.inr rfl)) (pss_cons (ps_set (i := 5) sc__law_benches.nd rfl (Or.inl rfl) (pe_lst pa_nil)) (pss_cons (ps_for PassesOwn.never rfl (pi_range1 rfl T.range (pa_bin (pe_op op_add (pv 2) (pe_cB C__law_draw (hr.mono (by decide)) pass01 (pa_name (pv 0) (pa_const pe_int pa_nil)))) pa_nil)) (pg_name (i := 6) sc__law_benches.nd rfl (by first | exact Or.inl rfl | exact Or.inr rfl)) (pss_cons (ps_set (i := 7) sc__law_benches.nd rfl (Or.inl rfl) (pe_cB C__law_piece (hr.mono (by decide)) pass01 (pa_name (pv 0) (pa_const pe_bl pa_nil)))) (pss_cons (ps_if (PW.pt (pw_and (pt_cmpR op_eq (pe_ix ix_tup (pv 7) pe_int (fun _ _ => rfl)) pe_str (nomark _)) (pw_and1 (pt_cmpR op_gt (pe_cB C__law_draw (hr.mono (by decide)) pass01 (pa_name (pv 0) (pa_const pe_int pa_nil))) pe_int (nomark _))))) (pss_cons (ps_set (i := 8) sc__law_benches.nd rfl (Or.inl rfl) (pe_cB C__law_less (hr.mono (by decide)) pass01 (pa_sub (pe_ix ix_tup (pv 7) pe_int (fun _ _ => rfl)) (pa_tuple (pe_tup (pa_const pe_int (pa_const pe_int pa_nil))) pa_nil)))) (pss_one (ps_set (i := 7) sc__law_benches.nd rfl (Or.inl rfl) (pe_tup (pa_const pe_str (pa_name (pv 8) (pa_call (pe_cB C__law_plus (hr.mono (by decide)) pass01 (pa_sub (pe_ix ix_tup (pv 7) pe_int (fun _ _ => rfl)) (pa_tuple (pe_tup (pa_const pe_int (pa_const pe_int pa_nil))) pa_nil))) pa_nil))))))) pss_nil) (pss_one (ps_expr (pe_bm PySem.F.plainAttrs_list PySem.F.slot_list_append PySem.F.type_list_append mt_append (pv 5) (pa_name (pv 7) pa_nil))))))) (pss_one (ps_expr (pe_bm PySem.F.plainAttrs_list PySem.F.slot_list_append PySem.F.type_list_append mt_append (pv 3) (pa_name (pv 5) pa_nil))))))) (pss_one (ps_ret (pv 3))))), ?_⟩
  refine ⟨(by show 0 ≤ sizeLine; decide), fun lf hlf => ?_⟩
  have u0 := same_new hlf (.lst ([] : List V))
  have nfd : lf ≠ d := fun e => by
    obtain ⟨a0, n0, _, hdd⟩ := hd.d
    rw [e, hdd] at hlf; cases hlf
  have hd0 := hd.keep u0
  have hf0 : upd H lf (.lst ([] : List V)) lf = some (.lst []) := upd_same
  have s0 : SD d H (upd H lf (.lst ([] : List V))) := Lib.SD.ofSame u0
  generalize upd H lf (.lst ([] : List V)) = H0 at u0 hd0 hf0 s0 ⊢
  refine ⟨_, rfl, 1, rfl, by decide, by decide, ?_⟩
  refine for_range (lo := 0) (n := 1) (fun i σ H' => (∃ c4 c5 c6 c7 c8, σ = [some (.ref d), some (.int 1), some (.int 0), some (.ref lf), c4, c5, c6, c7, c8]) ∧ DrA H' d c L ∧ SD d H H' ∧ ((i = 0 ∧ H' lf = some (.lst [])) ∨ (i = 1 ∧ ∃ lb xs ps, H lb = none ∧ H' lf = some (.lst [.ref lb]) ∧ H' lb = some (.lst xs) ∧ DVs K H' xs (List.map pcD ps) ∧ ps.length ≤ 6 ∧ ∀ p ∈ ps, PShort p))) ⟨⟨_, _, _, _, _, rfl⟩, hd0, s0, .inl ⟨rfl, hf0⟩⟩ ?_ ?_
  · rintro i σ H1 hi ⟨⟨c4, c5, c6, c7, c8, rfl⟩, hd1, s1, hx⟩
    obtain rfl : i = 0 := by omega
    have hf1 : H1 lf = some (.lst []) := by
      rcases hx with ⟨_, h⟩ | ⟨h, _⟩
      · exact h
      · cases h
    refine ⟨(by show 0 ≤ sizeLine; decide), fun lb hlb => ?_⟩
    have u2 := same_new hlb (.lst ([] : List V))
    have nbd : lb ≠ d := fun e => by
      obtain ⟨a0, n0, _, hdd⟩ := hd1.d
      rw [e, hdd] at hlb; cases hlb
    have nbf : lb ≠ lf := fun e => by rw [e, hf1] at hlb; cases hlb
    have nb0 : H lb = none := by
      cases e : H lb with
      | none => rfl
      | some o => have := s1 lb o nbd e; rw [hlb] at this; cases this
    have hd2 := hd1.keep u2
    have hb2 : upd H1 lb (.lst ([] : List V)) lb = some (.lst []) := upd_same
    have hf2 := u2 _ _ hf1
    have s2 := s1.trans (Lib.SD.ofSame u2)
    generalize upd H1 lb (.lst ([] : List V)) = H2 at u2 hd2 hb2 hf2 s2 ⊢
    refine ⟨_, rfl, _, rfl, d, c, L, 7, rfl, hd2, by decide, fun m H3 m0 m1 hd3 s3 => ?_⟩
    refine ⟨_, _, rfl, rfl, _, rfl, by omega, by omega, ?_⟩
    refine for_range (lo := 0) (n := (0 + m).toNat) (fun i σ H' => (∃ c6 c7 c8, σ = [some (.ref d), some (.int 1), some (.int 0), some (.ref lf), some (.int (0 + ((0 : Nat) : Int))), some (.ref lb), c6, c7, c8]) ∧ DrA H' d c L ∧ SD d H H' ∧ H' lf = some (.lst []) ∧ ∃ xs ps, H' lb = some (.lst xs) ∧ DVs K H' xs (List.map pcD ps) ∧ ps.length = i ∧ ∀ p ∈ ps, PShort p) ⟨⟨_, _, _, rfl⟩, hd3, s2.trans s3, s3 _ _ nfd hf2, [], [], s3 _ _ nbd hb2, .nil, rfl, fun p hp => nomatch hp⟩ ?_ ?_
    · rintro i σ H4 hi ⟨⟨c6, c7, c8, rfl⟩, hd4, s4, hf4, xs, ps, hb4, hxs, hpl, hps⟩
      refine ⟨_, rfl, d, c, L, false, rfl, hd4, fun v H5 p hd5 s5 hv hp => ?_⟩
      have key : ∀ (u : V) (H6 : Hp) (p' : Pc), DrA H6 d c L → SD d H H6 → H6 lf = some (.lst []) → H6 lb = some (.lst xs) → DV K H6 u (pcD p') → DVs K H6 xs (List.map pcD ps) → PShort p' → DrA (upd H6 lb (.lst (xs ++ [u]))) d c L ∧ SD d H (upd H6 lb (.lst (xs ++ [u]))) ∧ upd H6 lb (.lst (xs ++ [u])) lf = some (.lst []) ∧ ∃ xs' ps', upd H6 lb (.lst (xs ++ [u])) lb = some (.lst xs') ∧ DVs K (upd H6 lb (.lst (xs ++ [u]))) xs' (List.map pcD ps') ∧ ps'.length = i + 1 ∧ ∀ p ∈ ps', PShort p := by
        intro u H6 p' hd6 s6 hf6 hb6 hu hx6 hp'
        have sl : SD lb H6 (upd H6 lb (.lst (xs ++ [u]))) := sd_upd
        have st : SameT H6 (upd H6 lb (.lst (xs ++ [u]))) := sl.t hb6
        refine ⟨hd6.keepD sl nbd.symm (ne_of_none hd.c nb0), fun b o n e => by rw [upd_ne (ne_of_none e nb0)]; exact s6 b o n e, by rw [upd_ne nbf.symm]; exact hf6, _, ps ++ [p'], upd_same, ?_, by rw [List.length_append, hpl]; rfl, fun p hp => ?_⟩
        · rw [List.map_append]
          exact DVs.append (dvs_keepT st (noLs_map noL_pc ps) hx6) (.cons (dv_keepT st (noL_pc p') hu) .nil)
        · rcases List.mem_append.mp hp with h | h
          · exact hps p h
          · rw [List.mem_singleton.mp h]; exact hp'
      have xl : xs.length < sizeLine := small1000 (by have := hxs.len; rw [List.length_map] at this; omega)
      have s05 := s4.trans s5
      have hf5 := s5 _ _ nfd hf4
      have hb5 := s5 _ _ nbd hb4
      have hx5 := dvs_keepT (hd4.t s5) (noLs_map noL_pc ps) hxs
      cases p with
      | gap g =>
        obtain ⟨tt, ts, rfl, ht, hts⟩ := DV.tup_of hv
        obtain ⟨x1, x2, rfl, h1, h2⟩ := hts.two
        obtain rfl := DV.str_of h1
        refine ⟨_, rfl, tt, _, _, _, rfl, rfl, ht, atI0, rfl, _, rfl, iteF' (by rw [decS]; exact decide_eq_false (by decide +kernel)) (iteF ?_)⟩
        exact ⟨_, rfl, .inl ⟨rfl, _, SqL.of hb5⟩, _, rfl, lb, _, _, rfl, rfl, hb5, xl, ⟨_, _, _, rfl⟩, key _ H5 _ hd5 s05 hf5 hb5 hv hx5 hp.1⟩
      | glass g =>
        obtain ⟨tt, ts, rfl, ht, hts⟩ := DV.tup_of hv
        obtain ⟨x1, x2, rfl, h1, h2⟩ := hts.two
        obtain rfl := DV.str_of h1
        refine ⟨_, rfl, tt, _, _, _, rfl, rfl, ht, atI0, rfl, _, rfl, iteF' (by rw [decS]; exact decide_eq_false (by decide +kernel)) (iteF ?_)⟩
        exact ⟨_, rfl, .inl ⟨rfl, _, SqL.of hb5⟩, _, rfl, lb, _, _, rfl, rfl, hb5, xl, ⟨_, _, _, rfl⟩, key _ H5 _ hd5 s05 hf5 hb5 hv hx5 hp.1⟩
      | stop lo hi =>
        obtain ⟨tt, ts, rfl, ht, hts⟩ := DV.tup_of hv
        obtain ⟨x1, x2, x3, rfl, h1, h2, h3⟩ := hts.three
        obtain rfl := DV.str_of h1
        refine ⟨_, rfl, tt, _, _, _, rfl, rfl, ht, atI0, rfl, _, rfl, iteT' (by rw [decS]; exact decide_eq_true rfl) ?_⟩
        refine ⟨_, rfl, d, c, L, 3, rfl, hd5, by decide, fun y H6 y0 y1 hd6 s6 => ?_⟩
        have s06 := s05.trans s6
        have hf6 := s6 _ _ nfd hf5
        have hb6 := s6 _ _ nbd hb5
        have hx6 := dvs_keepT (hd5.t s6) (noLs_map noL_pc ps) hx5
        have hv6 := hd5.dv s6 hv
        refine ⟨_, _, rfl, rfl, _, rfl, ite2 (fun cc => ?_) (fun cc => ?_)⟩
        · obtain ⟨t', ts', e, ht6, hts6⟩ := DV.tup_of hv6
          cases e
          obtain ⟨z1, z2, z3, rfl, k1, k2, k3⟩ := hts6.three
          have b := hp.2 rfl
          have e9 : frD 9 = .tuple [.int 9, .int 1] := rfl
          have b9 : Bd 4 (9 : Rat) := ⟨by decide, by decide⟩
          refine ⟨_, rfl, tt, _, _, _, rfl, rfl, ht6, rfl, (by show 2 ≤ sizeLine; decide), fun p9 hp9 => ?_⟩
          have u9 := same_new hp9 (.tup [.int 9, .int 1])
          have d9 : DV K (upd H6 p9 (.tup [.int 9, .int 1])) (.ref p9) (frD 9) := by rw [e9]; exact .tup (SqT.of upd_same) (.cons (.int 9) (.cons (.int 1) .nil))
          refine ⟨_, _, .cons (k2.keep u9) (.cons d9 .nil), ⟨lo, 9, rfl, b.1.sm (by decide), b9.sm (by decide), rfl⟩, fun wl H7 s7 hw => ?_⟩
          have u7 := u9.trans s7
          refine ⟨_, rfl, _, rfl, tt, _, _, _, rfl, rfl, ht6.keep u7, rfl, (by show 2 ≤ sizeLine; decide), fun p8 hp8 => ?_⟩
          have v8 := same_new hp8 (.tup [.int 9, .int 1])
          have u8 := u7.trans v8
          have d8 : DV K (upd H7 p8 (.tup [.int 9, .int 1])) (.ref p8) (frD 9) := by rw [e9]; exact .tup (SqT.of upd_same) (.cons (.int 9) (.cons (.int 1) .nil))
          refine ⟨_, _, .cons (k3.keep u8) (.cons d8 .nil), ⟨hi, 9, rfl, b.2.sm (by decide), b9.sm (by decide), rfl⟩, fun wh H8 s8 hh => ?_⟩
          refine ⟨(by show 3 ≤ sizeLine; decide), fun r hr' => ?_⟩
          have v9 := same_new hr' (.tup [.str (PySem.Str.ofString "stop"), wl, wh])
          have u := (u8.trans s8).trans v9
          have dvp : DV K (upd H8 r (.tup [.str (PySem.Str.ofString "stop"), wl, wh])) (.ref r) (pcD (.stop (lo - 9) (hi + 9))) := .tup (SqT.of upd_same) (.cons (.str _) (.cons (hw.keep ((v8.trans s8).trans v9)) (.cons (hh.keep v9) .nil)))
          have ok1 : ¬ hi < lo := hp.1.1
          have ok2 : (Pc.stop (lo - 9) (hi + 9)).ok := show ¬ hi + 9 < lo - 9 by grind
          exact ⟨_, rfl, .inl ⟨rfl, _, SqL.of (u _ _ hb6)⟩, _, rfl, lb, _, _, rfl, rfl, u _ _ hb6, xl, ⟨_, _, _, rfl⟩, key _ _ _ (hd6.keep u) (s06.trans (Lib.SD.ofSame u)) (u _ _ hf6) (u _ _ hb6) dvp (hx6.keep u) (pshort_bd ok2 ⟨b.1.sub b9, b.2.add b9⟩ (by decide))⟩
        · exact ⟨_, rfl, .inl ⟨rfl, _, SqL.of hb6⟩, _, rfl, lb, _, _, rfl, rfl, hb6, xl, ⟨_, _, _, rfl⟩, key _ H6 _ hd6 s06 hf6 hb6 hv6 hx6 hp.1⟩
    · rintro σ H4 ⟨⟨c6, c7, c8, rfl⟩, hd4, s4, hf4, xs, ps, hb4, hxs, hpl, hps⟩
      have nfb : lb ≠ lf := nbf
      have sl : SD lf H4 (upd H4 lf (.lst ([] ++ [.ref lb]))) := sd_upd
      have st : SameT H4 (upd H4 lf (.lst ([] ++ [.ref lb]))) := sl.t hf4
      refine ⟨_, rfl, .inl ⟨rfl, _, SqL.of hf4⟩, _, rfl, lf, _, _, rfl, rfl, hf4, by decide, ⟨_, _, _, _, _, rfl⟩, hd4.keepD sl nfd.symm (ne_of_none hd.c hlf), (fun b o n e => by rw [upd_ne (ne_of_none e hlf)]; exact s4 b o n e), .inr ⟨rfl, lb, xs, ps, nb0, upd_same, by rw [upd_ne nbf]; exact hb4, dvs_keepT st (noLs_map noL_pc ps) hxs, by omega, hps⟩⟩
  · rintro σ H1 ⟨⟨c4, c5, c6, c7, c8, rfl⟩, hd1, s1, hx⟩
    rcases hx with ⟨h, _⟩ | ⟨_, lb, xs, ps, nb, hf, hb, hxs, pl, hp⟩
    · cases h
    · exact ⟨_, rfl, q lf lb xs ps H1 hd1 s1 hlf nb hf hb hxs pl hp⟩
theorem c__law_is_unknown (T : Txt K mg ad) (hw : w.params = ad.pr) : CalB P w K mg base true 29 "_law_is_unknown" ["_law_desk", "_law_row"] (spUnk K ad.Desk) := by
  refine T.t__law_is_unknown.calN sc__law_is_unknown (fun _ _ _ _ _ _ => by2 fun _ _ => rfl) (fun vs H Q E h => ?_) (fun f cdv A outer s H vs Q E hr h => ?_)
  · obtain ⟨_, _, _, _, _, _, _, rfl, _⟩ := h; rfl
  obtain ⟨o, dx, d, q, x, S, n, rfl, dk, nx, sx, k⟩ := h
  refine ⟨_, (pss_one (ps_tryGL (ptb_meth (k := 28) (pv 0) (hr.mono (by decide)) (pa_name (pv 1) pa_nil)) rfl rfl T.ex.m_Unknown (fun _ => (pss_one (ps_ret pe_bl))) (pss_one (ps_ret pe_bl)))), ?_⟩
  refine ⟨_, rfl, o, _, dx, _, _, _, rfl, dk.o, rfl, mx_say T hw, _, rfl, o, dx, d, q, x, S, n, rfl, dk, nx, sx, fun H1 s1 => ?_⟩
  exact ⟨_, rfl, T.ex.x_Unknown_Unknown, k H1 s1⟩
end
end K72
namespace K72
open PySem L2 Lib Fr Op Tx PySem.NumText
seal PE PT PW PA PS PSs PG PGs PI PO PIfs PJ
section
variable {P : Program} {w : World} {K : PySem.W.Frag} {mg : PySem.Str → Option Value} {base : Heap} {ad : Adr} {c : Bool}
theorem c__law_done (T : Txt K mg ad) (hw : w.params = ad.pr) : CalB P w K mg base true 29 "_law_done" ["_law_desk", "_law_kept", "_law_names", "_law_drawn_here"] (spDone72 K ad.Desk) := by
  have C__law_draw := c__law_draw (P := P) (w := w) (base := base) T
  have C__law_benches := c__law_benches (P := P) (w := w) (base := base) T
  have C__law_text := c__law_text (P := P) (w := w) (base := base) T
  have C__law_written := c__law_written (P := P) (w := w) (base := base) T
  refine T.t__law_done.calN sc__law_done (fun _ _ _ _ _ _ => by4 fun _ _ _ _ => rfl) (fun vs H Q E h => ?_) (fun f cdv A outer s H vs Q E hr h => ?_)
  · obtain ⟨_, _, _, _, _, _, _, _, _, _, _, rfl, _⟩ := h; rfl
  obtain ⟨o, dx, d, dk, ln, q, c, L, S, n, ns, rfl, lw, n1, k⟩ := h
  have l6 : (PySem.Str.ofString "bench ").length = 6 := by decide +kernel
  have l1 : (PySem.Str.ofString " ").length = 1 := by decide +kernel
  have l5 : (PySem.Str.ofString "join ").length = 5 := by decide +kernel
  have l5' : (PySem.Str.ofString "turn ").length = 5 := by decide +kernel
  have l9 : (PySem.Str.ofString " times ( ").length = 9 := by decide +kernel
  have l2 : (PySem.Str.ofString " )").length = 2 := by decide +kernel
  obtain ⟨tF, hF, kF⟩ : ∃ t, PSs (cxB true P w K mg base ["_law_desk", "_law_kept", "_law_names", "_law_drawn_here", "_law_there", "_law_new", "_law_way", "_law_one", "_law_other", "_law_bench", "_law_text_here", "_law_many"] "_law_done" (defScope s__law_done) f cdv A outer s H E).nox ((defBody s__law_done).drop 8) t ∧ ∀ (D : Ends) (x : PySem.Str) (c4 c6 c7 c8 c11 : Option V) (l5 : Addr) (pt : List (Part 5)) (tx : PySem.Str) (bs : List Pc) (H5 : Hp), Lw72 K H5 ad.Desk o dx d dk ln q c L S n ns → S3 d dk q H H5 → (Nm x ∧ PyData.strOk x = true) → BnA K H5 l5 bs → l5 ≠ q → OkB bs → (∀ p ∈ pt, WP 5 p) → pt.length ≤ 60 → (textL 5 pt).length ≤ 15000 → toldL 5 pt = bs → textL 5 pt = tx → (∀ H' S', Lw72 K H' ad.Desk o dx d dk ln q c L S' (n + 1) ns → S3 d dk q H H' → D.rt (.str "ok") H') → t D [some (.ref o), some (.ref dk), some (.ref ln), some (.ref q), c4, some (.str x), c6, c7, c8, some (.ref l5), some (.str tx), c11] H5 := by
    refine ⟨_, (pss_cons (ps_dput hr.units1 (pv 1) (pv 5) (pv 9) rfl) (pss_one (ps_ret (pe_mB (k := 28) (pv 0) (hr.mono (by decide)) (pa_bin (pe_op op_add_str (pe_op op_add_str (pe_op op_add_str pe_str (pv 5)) pe_str) (pv 10)) pa_nil))))), ?_⟩
    intro D x c4 c6 c7 c8 c11 lb pt tx bs H5 lw5 s5 hx hb nl ok wp pl tl eb et k
    subst eb et
    have xl := hx.1.len
    have cn : cntL 5 pt ≤ 60 := by rw [← cntL_told]; exact ok.1
    obtain ⟨kvs, ss, hk, hs, hl, db⟩ := lw5.kp.x
    obtain ⟨dr6, ds6, kp6, nm6, sd6⟩ := lw5.put (x := x) hk hb nl ok
    refine ⟨_, rfl, _, rfl, _, rfl, dk, _, rfl, DPut.k (k := .inr x) hk (Nat.lt_of_le_of_lt (show _ ≤ 60 by omega) (by decide)), ?_⟩
    generalize upd H5 dk (.dK (putK kvs (.inr x) (.ref lb))) = H6 at dr6 ds6 kp6 nm6 sd6 ⊢
    obtain ⟨za, zn, zn0, hq⟩ := dr6.d
    exact ⟨_, rfl, o, _, dx, _, _, _, rfl, ds6.o, rfl, mc_say_B T hw, _, rfl, _, _, rfl, rfl, (by simp only [slen_app, l6]; exact Nat.le_trans (show _ ≤ 20000 by omega) (by decide)), _, _, rfl, rfl, (by simp only [slen_app, l6, l1]; exact Nat.le_trans (show _ ≤ 20000 by omega) (by decide)), _, rfl, _, _, rfl, rfl, (by simp only [slen_app, l6, l1]; exact Nat.le_trans (show _ ≤ 20000 by omega) (by decide)), o, dx, d, q, x, S, n, pt, rfl, ds6, ⟨_, hq⟩, by omega, hx.1, by omega, wp, tl, cn, ok, fun H7 s7 ds7 => k H7 _ (lw5.join hx dr6 kp6 nm6 ds6 s7 ds7) (s5.trans ((S3.b sd6).trans (S3.a s7)))⟩
  obtain ⟨tR, hR, kR⟩ : ∃ t, PSs (cxB true P w K mg base ["_law_desk", "_law_kept", "_law_names", "_law_drawn_here", "_law_there", "_law_new", "_law_way", "_law_one", "_law_other", "_law_bench", "_law_text_here", "_law_many"] "_law_done" (defScope s__law_done) f cdv A outer s H E).nox ((defBody s__law_done).drop 5) t ∧ ∀ (D : Ends) (x : PySem.Str) (wy : Int) (c4 c7 c8 c9 c10 c11 : Option V) (H1 : Hp), Lw72 K H1 ad.Desk o dx d dk ln q c L S n ns → S3 d dk q H H1 → (Nm x ∧ PyData.strOk x = true) → (∀ H' S', Lw72 K H' ad.Desk o dx d dk ln q c L S' (n + 1) ns → S3 d dk q H H' → D.rt (.str "ok") H') → t D [some (.ref o), some (.ref dk), some (.ref ln), some (.ref q), c4, some (.str x), some (.int wy), c7, c8, c9, c10, c11] H1 := by
    refine ⟨_, (pss_cons (ps_set (i := 9) sc__law_done.nd rfl (Or.inl rfl) (pe_slice sl_list (pe_ix ix_list (pe_cB C__law_benches (hr.mono (by decide)) pass01 (pa_name (pv 3) (pa_const pe_int (pa_const pe_int pa_nil)))) pe_int (fun _ _ => rfl)) po_none (po_some pe_int))) (pss_cons (ps_set (i := 10) sc__law_done.nd rfl (Or.inl rfl) (pe_cB C__law_text (hr.mono (by decide)) pass01 (pa_name (pv 9) pa_nil))) (pss_cons (ps_if (PW.pt (pw_and (pt_cmpR (op_neD hr.units) (pv 9) (pe_lst pa_nil) (nomark _)) (pw_and1 (pt_cmpR op_eq (pv 6) pe_int (nomark _))))) (pss_cons (ps_set (i := 11) sc__law_done.nd rfl (Or.inl rfl) (pe_cB C__law_draw (hr.mono (by decide)) pass01 (pa_name (pv 3) (pa_const pe_int pa_nil)))) (pss_cons (ps_set (i := 9) sc__law_done.nd rfl (Or.inl rfl) (pe_op op_rep (pv 9) (pv 11))) (pss_one (ps_set (i := 10) sc__law_done.nd rfl (Or.inl rfl) (pe_op op_add_str (pe_op op_add_str (pe_op op_add_str (pe_cB C__law_written (hr.mono (by decide)) pass01 (pa_name (pv 11) pa_nil)) pe_str) (pv 10)) pe_str))))) pss_nil) hF))), ?_⟩
    intro D x wy c4 c7 c8 c9 c10 c11 H1 lw1 s1 hx k
    refine ⟨_, rfl, q, c, L, rfl, lw1.dr, fun l b xs ps H2 dr2 s2 nl nb hl hb hxs pl hp => ?_⟩
    have lw2 := lw1.draw dr2 s2
    refine ⟨l, _, _, .ref b, rfl, rfl, SqL.of hl, atI0, _, rfl, b, xs, rfl, SqL.of hb, fun p hpn => ?_⟩
    have bn := bna_take5 hxs hpn
    have u3 := same_new hpn (.lst (cutV xs none (some 5)))
    have lw3 := lw2.keep u3
    have np : p ≠ q := fun e => by
      obtain ⟨za, zn, zn0, hq⟩ := dr2.d
      rw [e, hq] at hpn; cases hpn
    generalize upd H2 p (.lst (cutV xs none (some 5))) = H3 at bn u3 lw3 ⊢
    have lz : (ps.take 5).length ≤ 5 := by rw [List.length_take]; omega
    have hz : ∀ p ∈ ps.take 5, PShort p := fun p h => hp p (List.mem_of_mem_take h)
    generalize ps.take 5 = pz at bn lz hz ⊢
    refine ⟨_, rfl, .ref p, pz, rfl, bn.dv, by omega, hz, fun H4 s4 => ?_⟩
    have bn4 := bn.keep s4
    have lw4 := lw3.keep s4
    have s14 : S3 d dk q H H4 := s1.trans ((S3.c s2).trans (S3.same (u3.trans s4)))
    refine ⟨_, rfl, (by show 0 ≤ sizeLine; decide), fun e he => ?_⟩
    have u5 := same_new he (.lst ([] : List V))
    have bn5 := bn4.keep u5
    have lw5 := lw4.keep u5
    have s15 : S3 d dk q H (upd H4 e (.lst ([] : List V))) := s14.trans (S3.same u5)
    have de : DV K (upd H4 e (.lst ([] : List V))) (.ref e) (.list []) := .lst (SqL.of upd_same) .nil
    generalize upd H4 e (.lst ([] : List V)) = H5 at bn5 lw5 s15 de ⊢
    have okz : OkB pz := ⟨by omega, hz⟩
    have tz := textB_le hz lz
    have fin0 : ∀ c11 : Option V, tF D [some (.ref o), some (.ref dk), some (.ref ln), some (.ref q), c4, some (.str x), some (.int wy), c7, c8, some (.ref p), some (.str (textB pz)), c11] H5 := fun c11 => kF D x _ _ _ _ _ p (pz.map (pPc 4)) (textB pz) pz H5 lw5 s15 hx bn5 np okz (WP_pcs hz) (by rw [List.length_map]; omega) (by rw [textB_L 4]; omega) (toldL_pcs 4 pz) (textB_L 4 pz) k
    refine ne_nil bn5.dv de (flat_bench pz) ⟨_, rfl, ?_⟩
    cases pz with
    | nil => exact iteF' rfl (iteF (fin0 _))
    | cons p0 pr =>
    refine iteT' rfl ⟨_, rfl, rfl, _, rfl, ite2 (fun _ => ?_) (fun _ => fin0 _)⟩
    refine ⟨_, rfl, q, c, L, 5, rfl, lw5.dr, by decide, fun m H6 m0 m1 dr6 s6 => ?_⟩
    have lw6 := lw5.draw dr6 s6
    obtain ⟨xz, hxz, dxz, lxz⟩ := bna_t bn5 (lw5.dr.t s6) (fun o e => s6 _ _ np e)
    have em : ((m.toNat : Nat) : Int) = m := by omega
    have lm : m.toNat * (p0 :: pr).length ≤ 4 * 5 := Nat.mul_le_mul (by omega) lz
    refine ⟨_, rfl, _, rfl, p, m, xz, rfl, rfl, hxz, by omega, by omega, Nat.le_trans (show _ ≤ 20 by rw [lxz, Nat.mul_comm]; exact lm) (by decide), fun r hr' => ?_⟩
    have u7 := same_new hr' (.lst (List.replicate m.toNat xz).flatten)
    have nr : r ≠ q := fun e => by
      obtain ⟨za, zn, zn0, hq⟩ := dr6.d
      rw [e, hq] at hr'; cases hr'
    refine ⟨_, rfl, m, rfl, by omega, fun z hz' => ?_⟩
    have ez : z = dgS m.toNat := ext (by rw [hz', if_neg (by omega), cl_dgS, List.nil_append]; congr 1; omega)
    subst ez
    have lz1 := dgS_1 ⟨m.toNat, by omega⟩
    have lz1 : (dgS m.toNat).length ≤ 1 := lz1
    refine ⟨_, _, rfl, rfl, (by simp only [slen_app, l9]; exact Nat.le_trans (show _ ≤ 20000 by omega) (by decide)), _, rfl, _, _, rfl, rfl, (by simp only [slen_app, l9]; exact Nat.le_trans (show _ ≤ 20000 by omega) (by decide)), _, _, rfl, rfl, (by simp only [slen_app, l9, l2]; exact Nat.le_trans (show _ ≤ 20000 by omega) (by decide)), ?_⟩
    refine kF D x _ _ _ _ _ r (rd72 m.toNat (p0 :: pr)) _ (rep m.toNat (p0 :: pr)) _ (lw6.keep u7) (s15.trans ((S3.c s6).trans (S3.same u7))) hx (.of upd_same ((dvs_rep dxz m.toNat).keep u7)) nr (rep_ok hz (by omega)) (wp72 (by omega) (by simp) (by omega) hz) (by show 1 ≤ 60; decide) ?_ (told72 _ _) (text72 _ _) k
    rw [text72]
    simp only [slen_app]
    rw [show (sOf " times ( ").length = 9 from l9, show (sOf " )").length = 2 from l2]
    omega
  obtain ⟨tG, hG, kG⟩ : ∃ t, PSs (cxB true P w K mg base ["_law_desk", "_law_kept", "_law_names", "_law_drawn_here", "_law_there", "_law_new", "_law_way", "_law_one", "_law_other", "_law_bench", "_law_text_here", "_law_many"] "_law_done" (defScope s__law_done) f cdv A outer s H E).nox ((defBody s__law_done).drop 4) t ∧ ∀ (D : Ends) (x : PySem.Str) (wy : Int) (p2 : Addr) (zs : List PySem.Str) (c7 c8 c9 c10 c11 : Option V) (H1 : Hp), Lw72 K H1 ad.Desk o dx d dk ln q c L S n ns → S3 d dk q H H1 → (Nm x ∧ PyData.strOk x = true) → H1 p2 = some (.lst (zs.map V.str)) → p2 ≠ q → (∀ y ∈ zs, ∃ ps, S y = some ps) → (∀ H' S', Lw72 K H' ad.Desk o dx d dk ln q c L S' (n + 1) ns → S3 d dk q H H' → D.rt (.str "ok") H') → t D [some (.ref o), some (.ref dk), some (.ref ln), some (.ref q), some (.ref p2), some (.str x), some (.int wy), c7, c8, c9, c10, c11] H1 := by
    refine ⟨_, (pss_cons (ps_if (PW.pt (pw_and (pt_cmpR (op_neD hr.units) (pv 4) (pe_lst pa_nil) (nomark _)) (pw_and1 (pt_cmpR op_eq (pv 6) pe_int (nomark _))))) (pss_cons (ps_set (i := 7) sc__law_done.nd rfl (Or.inl rfl) (pe_ix ix_list (pv 4) (pe_cB C__law_draw (hr.mono (by decide)) pass01 (pa_name (pv 3) (pa_call (pe_callB call_len_seq rfl T.len bt_len (pa_name (pv 4) pa_nil)) pa_nil))) (fun _ _ => rfl))) (pss_cons (ps_dput hr.units1 (pv 1) (pv 5) (pe_slice3 (pe_dget hr.units1 (pv 1) (pv 7) (fun _ _ => rfl)) po_none po_none (po_some (pe_un un_neg pe_int))) rfl) (pss_one (ps_ret (pe_mB (k := 28) (pv 0) (hr.mono (by decide)) (pa_bin (pe_op op_add_str (pe_op op_add_str (pe_op op_add_str pe_str (pv 5)) pe_str) (pv 7)) pa_nil)))))) pss_nil) hR), ?_⟩
    intro D x wy p2 zs c7 c8 c9 c10 c11 H1 lw1 s1 hx ht np hk' k
    have so : ∀ z ∈ zs, PyData.strOk z = true := fun z hz => by
      obtain ⟨ps, e⟩ := hk' z hz
      exact (lw1.sn z ps e).2
    refine ⟨_, rfl, (by show 0 ≤ sizeLine; decide), fun e he => ?_⟩
    have u2 := same_new he (.lst ([] : List V))
    have lw2 := lw1.keep u2
    have s2 : S3 d dk q H (upd H1 e (.lst ([] : List V))) := s1.trans (S3.same u2)
    have de : DV K (upd H1 e (.lst ([] : List V))) (.ref e) (.list []) := .lst (SqL.of upd_same) .nil
    have ht2 := u2 _ _ ht
    generalize upd H1 e (.lst ([] : List V)) = H2 at lw2 s2 de ht2 ⊢
    refine ne_nil (dv_strs ht2) de (flat_strs zs so) ⟨_, rfl, ?_⟩
    cases zs with
    | nil => exact iteF' rfl (iteF (kR D x wy _ _ _ _ _ _ H2 lw2 s2 hx k))
    | cons z0 zr =>
    refine iteT' rfl ⟨_, rfl, rfl, _, rfl, ite2 (fun _ => ?_) (fun _ => kR D x wy _ _ _ _ _ _ H2 lw2 s2 hx k)⟩
    refine ⟨_, rfl, _, rfl, _, rfl, p2, _, rfl, .inl (SqL.of ht2), q, c, L, _, rfl, lw2.dr, by simp only [List.length_map, List.length_cons]; omega, fun i H3 i0 i1 dr3 s3 => ?_⟩
    have lw3 := lw2.draw dr3 s3
    have ht3 := s3 _ _ np ht2
    obtain ⟨y, ym, ya⟩ := atS i0 i1
    refine ⟨p2, _, i, .str y, rfl, rfl, SqL.of ht3, ya, ?_⟩
    obtain ⟨a, sy⟩ := hk' y ym
    obtain ⟨kvs, ss, hk, hs, hl, db⟩ := lw3.kp.x
    obtain ⟨oka, la, va, ⟨xa, ha1, ha2, ha3⟩, nla⟩ := db.at sy
    have ga : DGet H3 dk (.str y) (some (.ref la)) := va ▸ DGet.k (k := .inr y) hk
    refine ⟨_, rfl, _, rfl, dk, _, rfl, ga, _, rfl, _, rfl, la, xa, rfl, SqL.of ha1, by decide, fun p hp => ?_⟩
    have ep : pickV xa none none (some (-1)) = xa.reverse := pick_back (by rw [ha3]; exact oka.1)
    have ep : pickV xa none none (some (-(1 : Int))) = xa.reverse := ep
    rw [ep]
    have u4 := same_new hp (.lst xa.reverse)
    have np4 : p ≠ q := fun e => by
      obtain ⟨za, zn, zn0, hq⟩ := dr3.d
      rw [e, hq] at hp; cases hp
    have lw4 := lw3.keep u4
    have hk4 := u4 _ _ hk
    have bn4 : BnA K (upd H3 p (.lst xa.reverse)) p a.reverse := .of upd_same (by rw [List.map_reverse]; exact (dvs_rev ha2).keep u4)
    generalize upd H3 p (.lst xa.reverse) = H4 at u4 lw4 hk4 bn4 ⊢
    obtain ⟨dr6, ds6, kp6, nm6, sd6⟩ := lw4.put (x := x) hk4 bn4 np4 oka.rev
    refine ⟨_, rfl, _, rfl, dk, _, rfl, DPut.k (k := .inr x) hk4 (Nat.lt_of_le_of_lt (show _ ≤ 60 by omega) (by decide)), ?_⟩
    generalize upd H4 dk (.dK (putK kvs (.inr x) (.ref p))) = H6 at dr6 ds6 kp6 nm6 sd6 ⊢
    obtain ⟨za, zn, zn0, hq⟩ := dr6.d
    have xl := hx.1.len
    have ny := (lw1.sn y a sy).1
    have yl := ny.len
    exact ⟨_, rfl, o, _, dx, _, _, _, rfl, ds6.o, rfl, mc_say_T T hw, _, rfl, _, _, rfl, rfl, (by simp only [slen_app, l5']; exact Nat.le_trans (show _ ≤ 20000 by omega) (by decide)), _, _, rfl, rfl, (by simp only [slen_app, l5', l1]; exact Nat.le_trans (show _ ≤ 20000 by omega) (by decide)), _, rfl, _, _, rfl, rfl, (by simp only [slen_app, l5', l1]; exact Nat.le_trans (show _ ≤ 20000 by omega) (by decide)), o, dx, d, q, x, y, S, n, a, rfl, ds6, ⟨_, hq⟩, by omega, hx.1, ny, sy, fun H7 s7 ds7 => k H7 _ (lw4.join hx dr6 kp6 nm6 ds6 s7 ds7) (s2.trans ((S3.c s3).trans ((S3.same u4).trans ((S3.b sd6).trans (S3.a s7)))))⟩
  refine ⟨_, (pss_cons (ps_set (i := 4) sc__law_done.nd rfl (Or.inl rfl) (pe_callB call_sortedS rfl T.sorted bt_sorted (pa_call (pe_callTy (call_listD rfl) rfl T.list bt_list (pa_name (pv 1) pa_nil)) pa_nil))) (pss_cons (ps_set (i := 5) sc__law_done.nd rfl (Or.inl rfl) (pe_ix ix_list (pv 2) (pe_cB C__law_draw (hr.mono (by decide)) pass01 (pa_name (pv 3) (pa_const pe_int pa_nil))) (fun _ _ => rfl))) (pss_cons (ps_set (i := 6) sc__law_done.nd rfl (Or.inl rfl) (pe_cB C__law_draw (hr.mono (by decide)) pass01 (pa_name (pv 3) (pa_const pe_int pa_nil)))) (pss_cons (ps_if (PW.pt (pw_and (pt_cmpR (op_neD hr.units) (pv 4) (pe_lst pa_nil) (nomark _)) (pw_and1 (pt_cmpR op_eq (pv 6) pe_int (nomark _))))) (pss_cons (ps_set (i := 7) sc__law_done.nd rfl (Or.inl rfl) (pe_ix ix_list (pv 4) (pe_cB C__law_draw (hr.mono (by decide)) pass01 (pa_name (pv 3) (pa_call (pe_callB call_len_seq rfl T.len bt_len (pa_name (pv 4) pa_nil)) pa_nil))) (fun _ _ => rfl))) (pss_cons (ps_set (i := 8) sc__law_done.nd rfl (Or.inl rfl) (pe_ix ix_list (pv 4) (pe_cB C__law_draw (hr.mono (by decide)) pass01 (pa_name (pv 3) (pa_call (pe_callB call_len_seq rfl T.len bt_len (pa_name (pv 4) pa_nil)) pa_nil))) (fun _ _ => rfl))) (pss_one (ps_if (pt_cmpR op_le (pe_op op_add (pe_callB call_len_seq rfl T.len bt_len (pa_sub (pe_dget hr.units1 (pv 1) (pv 7) (fun _ _ => rfl)) pa_nil)) (pe_callB call_len_seq rfl T.len bt_len (pa_sub (pe_dget hr.units1 (pv 1) (pv 8) (fun _ _ => rfl)) pa_nil))) pe_int (nomark _)) (pss_cons (ps_dput hr.units1 (pv 1) (pv 5) (pe_op op_cat (pe_dget hr.units1 (pv 1) (pv 7) (fun _ _ => rfl)) (pe_dget hr.units1 (pv 1) (pv 8) (fun _ _ => rfl))) rfl) (pss_one (ps_ret (pe_mB (k := 28) (pv 0) (hr.mono (by decide)) (pa_bin (pe_op op_add_str (pe_op op_add_str (pe_op op_add_str (pe_op op_add_str (pe_op op_add_str pe_str (pv 5)) pe_str) (pv 7)) pe_str) (pv 8)) pa_nil))))) pss_nil)))) pss_nil) hG)))), ?_⟩
  obtain ⟨kvs, ss, hk, hs, hl, db⟩ := lw.kp.x
  refine ⟨_, rfl, dk, kvs, rfl, .inl hk, fun p1 hp1 => ?_⟩
  rw [keys_strs hs]
  have sl : ss.length ≤ 60 := by
    have := congrArg List.length hs
    rw [List.length_map, List.length_map] at this
    omega
  refine ⟨p1, ss, rfl, SqL.of upd_same, by omega, fun p2 zs hp2 perm => ?_⟩
  have u1 := (same_new hp1 (.lst (ss.map V.str))).trans (same_new hp2 (.lst (zs.map V.str)))
  have lw1 := lw.keep u1
  have np : p2 ≠ q := fun e => by
    obtain ⟨za, zn, zn0, hq⟩ := (lw.dr.keep (same_new hp1 (.lst (ss.map V.str)))).d
    rw [e, hq] at hp2; cases hp2
  have ht1 : upd (upd H p1 (.lst (ss.map V.str))) p2 (.lst (zs.map V.str)) p2 = some (.lst (zs.map V.str)) := upd_same
  have s1 : S3 d dk q H (upd (upd H p1 (.lst (ss.map V.str))) p2 (.lst (zs.map V.str))) := S3.same u1
  generalize upd (upd H p1 (.lst (ss.map V.str))) p2 (.lst (zs.map V.str)) = H1 at u1 lw1 ht1 s1 ⊢
  have hk' : ∀ y ∈ zs, ∃ ps, S y = some ps := fun y hy => key_some hs db (perm.mem_iff.mp hy)
  have so : ∀ z ∈ zs, PyData.strOk z = true := fun z hz => by
    obtain ⟨ps, e⟩ := hk' z hz
    exact (lw.sn z ps e).2
  refine ⟨_, rfl, _, rfl, q, c, L, 4, rfl, lw1.dr, by decide, fun i H2 i0 i1 dr2 s2 => ?_⟩
  have lw2 := lw1.draw dr2 s2
  have ht2 := s2 _ _ np ht1
  obtain ⟨x, xm, xa⟩ := atS (zs := ns) i0 (by rw [List.length_map, lw.l4]; exact i1)
  have hx := lw.ok x xm
  refine ⟨ln, _, i, .str x, rfl, rfl, SqL.of lw2.nm, xa, ?_⟩
  refine ⟨_, rfl, q, c, L, 4, rfl, lw2.dr, by decide, fun wy H3 w0 w1 dr3 s3 => ?_⟩
  have lw3 := lw2.draw dr3 s3
  have ht3 := s3 _ _ np ht2
  have s13 : S3 d dk q H H3 := s1.trans ((S3.c s2).trans (S3.c s3))
  refine ⟨_, rfl, (by show 0 ≤ sizeLine; decide), fun e he => ?_⟩
  have u4 := same_new he (.lst ([] : List V))
  have lw4 := lw3.keep u4
  have s4 : S3 d dk q H (upd H3 e (.lst ([] : List V))) := s13.trans (S3.same u4)
  have de : DV K (upd H3 e (.lst ([] : List V))) (.ref e) (.list []) := .lst (SqL.of upd_same) .nil
  have ht4 := u4 _ _ ht3
  generalize upd H3 e (.lst ([] : List V)) = H4 at lw4 s4 de ht4 ⊢
  refine ne_nil (dv_strs ht4) de (flat_strs zs so) ⟨_, rfl, ?_⟩
  cases zs with
  | nil => exact iteF' rfl (iteF (kG _ x wy p2 [] _ _ _ _ _ H4 lw4 s4 hx ht4 np hk' k))
  | cons z0 zr =>
  refine iteT' rfl ⟨_, rfl, rfl, _, rfl, ite2 (fun _ => ?_) (fun _ => kG _ x wy p2 (z0 :: zr) _ _ _ _ _ H4 lw4 s4 hx ht4 np hk' k)⟩
  refine ⟨_, rfl, _, rfl, _, rfl, p2, _, rfl, .inl (SqL.of ht4), q, c, L, _, rfl, lw4.dr, by simp only [List.length_map, List.length_cons]; omega, fun i H5 i0 i1 dr5 s5 => ?_⟩
  have lw5 := lw4.draw dr5 s5
  have ht5 := s5 _ _ np ht4
  obtain ⟨y, ym, ya⟩ := atS i0 i1
  refine ⟨p2, _, i, .str y, rfl, rfl, SqL.of ht5, ya, ?_⟩
  refine ⟨_, rfl, _, rfl, _, rfl, p2, _, rfl, .inl (SqL.of ht5), q, c, L, _, rfl, lw5.dr, by simp only [List.length_map, List.length_cons]; omega, fun j H6 j0 j1 dr6 s6 => ?_⟩
  have lw6 := lw5.draw dr6 s6
  have ht6 := s6 _ _ np ht5
  obtain ⟨z, zm, za⟩ := atS j0 j1
  refine ⟨p2, _, j, .str z, rfl, rfl, SqL.of ht6, za, ?_⟩
  have s06 : S3 d dk q H H6 := s4.trans ((S3.c s5).trans (S3.c s6))
  obtain ⟨a, sy⟩ := hk' y ym
  obtain ⟨b, sz⟩ := hk' z zm
  obtain ⟨kvs, ss, hk, hs, hl, db⟩ := lw6.kp.x
  obtain ⟨oka, la, va, ⟨xa, ha1, ha2, ha3⟩, nla⟩ := db.at sy
  obtain ⟨okb, lb, vb, ⟨xb, hb1, hb2, hb3⟩, nlb⟩ := db.at sz
  have ga : DGet H6 dk (.str y) (some (.ref la)) := va ▸ DGet.k (k := .inr y) hk
  have gb : DGet H6 dk (.str z) (some (.ref lb)) := vb ▸ DGet.k (k := .inr z) hk
  refine ⟨_, rfl, _, rfl, dk, _, rfl, ga, la, xa, rfl, .inl (SqL.of ha1), _, rfl, _, rfl, dk, _, rfl, gb, lb, xb, rfl, .inl (SqL.of hb1), _, _, rfl, rfl, _, _, rfl, rfl, _, rfl, ite2 (fun cc => ?_) (fun _ => kG _ x wy p2 (z0 :: zr) _ _ _ _ _ H6 lw6 s06 hx ht6 np hk' k)⟩
  have ab : a.length + b.length ≤ 60 := by
    have := of_decide_eq_true cc
    omega
  refine ⟨_, rfl, _, rfl, dk, _, rfl, ga, _, rfl, _, rfl, dk, _, rfl, gb, la, lb, xa, xb, rfl, rfl, ha1, hb1, Nat.le_trans (show xa.length + xb.length ≤ 60 by omega) (by decide), fun p hp => ?_⟩
  have u7 := same_new hp (.lst (xa ++ xb))
  have np7 : p ≠ q := fun e => by
    obtain ⟨za, zn, zn0, hq⟩ := dr6.d
    rw [e, hq] at hp; cases hp
  have lw7 := lw6.keep u7
  have hk7 := u7 _ _ hk
  have bn7 : BnA K (upd H6 p (.lst (xa ++ xb))) p (a ++ b) := .of upd_same (by rw [List.map_append]; exact (DVs.append ha2 hb2).keep u7)
  generalize upd H6 p (.lst (xa ++ xb)) = H7 at u7 lw7 hk7 bn7 ⊢
  obtain ⟨dr8, ds8, kp8, nm8, sd8⟩ := lw7.put (x := x) hk7 bn7 np7 (oka.app okb ab)
  refine ⟨_, rfl, _, rfl, dk, _, rfl, DPut.k (k := .inr x) hk7 (Nat.lt_of_le_of_lt (show _ ≤ 60 by omega) (by decide)), ?_⟩
  generalize upd H7 dk (.dK (putK kvs (.inr x) (.ref p))) = H8 at dr8 ds8 kp8 nm8 sd8 ⊢
  obtain ⟨za, zn, zn0, hq⟩ := dr8.d
  have xl := hx.1.len
  have ny := (lw.sn y a sy).1
  have nz := (lw.sn z b sz).1
  have yl := ny.len
  have zl := nz.len
  exact ⟨_, rfl, o, _, dx, _, _, _, rfl, ds8.o, rfl, mc_say_J T hw, _, rfl, _, _, rfl, rfl, (by simp only [slen_app, l5]; exact Nat.le_trans (show _ ≤ 20000 by omega) (by decide)), _, _, rfl, rfl, (by simp only [slen_app, l5, l1]; exact Nat.le_trans (show _ ≤ 20000 by omega) (by decide)), _, rfl, _, _, rfl, rfl, (by simp only [slen_app, l5, l1]; exact Nat.le_trans (show _ ≤ 20000 by omega) (by decide)), _, _, rfl, rfl, (by simp only [slen_app, l5, l1]; exact Nat.le_trans (show _ ≤ 20000 by omega) (by decide)), _, rfl, _, _, rfl, rfl, (by simp only [slen_app, l5, l1]; exact Nat.le_trans (show _ ≤ 20000 by omega) (by decide)), o, dx, d, q, x, y, z, S, n, a, b, rfl, ds8, ⟨_, hq⟩, by omega, hx.1, ny, nz, sy, sz, ab, fun H9 s9 ds9 => k H9 _ (lw7.join hx dr8 kp8 nm8 ds8 s9 ds9) (s06.trans ((S3.same u7).trans ((S3.b sd8).trans (S3.a s9))))⟩
end
end K72
namespace K72
open PySem L2 Lib Fr Op Tx PySem.NumText
seal PE PT PW PA PS PSs PG PGs PI PO PIfs PJ
section
variable {P : Program} {w : World} {K : PySem.W.Frag} {mg : PySem.Str → Option Value} {base : Heap} {ad : Adr} {c : Bool}
theorem x_cell0 (T : Txt K mg ad) : CalB P w K mg base true 1 "_law_cell_at" ["_law_script", "_law_k"] (spCell0 K) := by
  refine T.t__law_cell_at.calN sc__law_cell_at (fun _ _ _ _ _ _ => by2 fun _ _ => rfl) (fun vs H Q E h => ?_) (fun f cdv A outer s H vs Q E hr h => ?_)
  · obtain ⟨_, _, rfl, _⟩ := h; rfl
  obtain ⟨a, ns, rfl, hS, q⟩ := h
  refine ⟨_, (pss_cons (ps_if (pt_cmpR op_lt (pv 1) (pe_callB call_len_seq rfl T.len bt_len (pa_name (pv 0) pa_nil)) (nomark _)) (pss_one (ps_ret (pe_ix ix_list (pv 0) (pv 1) (fun _ _ => rfl)))) pss_nil) (pss_one (ps_ret pe_int))), ?_⟩
  refine ⟨_, rfl, _, rfl, a, _, rfl, .inl hS, _, _, rfl, rfl, _, rfl, ?_⟩
  cases ns with
  | nil => exact iteF' rfl q
  | cons z r => exact iteT' (decide_eq_true (by simp only [List.length_map, List.length_cons]; omega)) ⟨_, rfl, _, rfl, a, _, _, _, rfl, rfl, hS, atI0, q⟩
theorem ok_law (T : Txt K mg ad) (hw : w.params = ad.pr) {fa : Addr} {fd : FuncData} (F : Fun K "law" "law" s_law fa fd) : FnB P w K mg base true 30 fa fd ["_law_script"] (spLaw K) := by
  have C__law_drawn := c__law_drawn (P := P) (w := w) (base := base) T
  have C__law_called := c__law_called (P := P) (w := w) (base := base) T
  have C__law_text := c__law_text (P := P) (w := w) (base := base) T
  have C__law_cell_at := x_cell0 (P := P) (w := w) (base := base) T
  have C__law_done := c__law_done (P := P) (w := w) (base := base) T hw
  have C__law_is_unknown := c__law_is_unknown (P := P) (w := w) (base := base) T hw
  have M_Desk := k_Desk (P := P) (w := w) (base := base) T
  refine F.okB sc_law (fun vs H Q E h => ?_) (fun cdv A outer s H vs Q E hr h => ?_)
  · obtain ⟨a, ns, rfl, _⟩ := h; rfl
  obtain ⟨a, ns, rfl, hS, h63, q⟩ := h
  have ls : (PySem.Str.ofString "show ").length = 5 := by decide +kernel
  have lb : (PySem.Str.ofString "bench ").length = 6 := by decide +kernel
  have l1 : (PySem.Str.ofString " ").length = 1 := by decide +kernel
  refine ⟨_, (pss_cons (ps_set (i := 1) sc_law.nd rfl (by first | exact Or.inl rfl | exact Or.inr rfl) (pe_cB C__law_drawn (hr.mono (by decide)) pass01 (pa_name (pv 0) (pa_const pe_int pa_nil)))) (pss_cons (ps_set (i := 2) sc_law.nd rfl (Or.inl rfl) (pe_op op_cat (pe_compX ["_law_k", "_law_script"] [none, some 0] rfl (pi_range1 rfl T.range (pa_const pe_int pa_nil)) (fun _ _ _ _ _ _ => (pg_name (i := 0) (show List.Nodup [("_law_k" : Str), ("_law_script" : Str)] by decide) rfl (by first | exact Or.inl rfl | exact Or.inr rfl))) (fun _ _ _ _ _ _ => pifs_nil) (fun _ _ _ _ _ _ => (pe_cB C__law_called (hr.mono (by decide)) pass01 (pa_bin (pe_op op_mod (pe_cB C__law_cell_at (hr.mono (by decide)) pass01 (pa_name (pv 1) (pa_const pe_int pa_nil))) pe_int) (pa_name (pv 0) pa_nil)))) (cap_def (hcell := by decide) (hf := (show ∀ y : Str × NameKind, y ∈ _ → y.2 = NameKind.free → (defScope s_law).names.lookup y.1 = some NameKind.cell by decide))) (by decide) rfl (by decide) rfl (fun i j h => by
      rcases i with _ | _ | i
      · simp at h
      · simp at h; subst h; exact ⟨_, rfl, rfl, rfl, rfl⟩
      · simp at h)) (pe_lst (pa_const pe_str pa_nil)))) (pss_cons (ps_set (i := 3) sc_law.nd rfl (Or.inl rfl) (pe_mkB0 M_Desk (hr.mono (by decide)))) (pss_cons (ps_set (i := 4) sc_law.nd rfl (Or.inl rfl) (pe_mkB0 M_Desk (hr.mono (by decide)))) (pss_cons (ps_set (i := 5) sc_law.nd rfl (Or.inl rfl) pe_dnewK) (pss_cons (ps_for PassesOwn.never rfl (pi_list (pe_op op_cat (pe_slice sl_list (pv 0) (po_some pe_int) (po_some pe_int)) (pe_lst (pa_call (pe_callB call_len_seq rfl T.len bt_len (pa_name (pv 0) pa_nil)) pa_nil)))) (pg_name (i := 6) sc_law.nd rfl (by first | exact Or.inl rfl | exact Or.inr rfl)) (pss_cons (ps_if (pt_cmpR op_ne (pe_cB C__law_done (hr.mono (by decide)) pass01 (pa_name (pv 3) (pa_name (pv 5) (pa_name (pv 2) (pa_name (pv 1) pa_nil))))) pe_str (nomark _)) (pss_one (ps_ret pe_bl)) pss_nil) (pss_one (ps_forD PassesOwn.never rfl (pv 5) (pg_name (i := 7) sc_law.nd rfl (by first | exact Or.inl rfl | exact Or.inr rfl)) (pss_cons (ps_set (i := 8) sc_law.nd rfl (Or.inl rfl) (pe_mB (k := 28) (pv 3) (hr.mono (by decide)) (pa_bin (pe_op op_add_str pe_str (pv 7)) pa_nil))) (pss_one (ps_if (PW.pt (pw_or (pt_not (pt_val (pe_callB call_isiD rfl T.isinstance bt_isinstance (pa_name (pv 8) (pa_name (pe_bltn (v := .ty "str") rfl T.str bt_str rfl) pa_nil))))) (pw_or1 (pt_cmpR op_ne (pv 8) (pe_cB C__law_text (hr.mono (by decide)) pass01 (pa_sub (pe_dget hr.units1 (pv 5) (pv 7) (fun _ _ => rfl)) pa_nil)) (nomark _))))) (pss_one (ps_ret pe_bl)) pss_nil))))))) (pss_cons (ps_if (PW.pt (pw_or (pt_cmpR op_ne (pe_mB (k := 28) (pv 4) (hr.mono (by decide)) (pa_bin (pe_op op_add_str (pe_op op_add_str pe_str (pe_ix ix_list (pv 2) pe_int (fun _ _ => rfl))) pe_str) pa_nil)) pe_str (nomark _)) (pw_or1 (pt_cmpR op_ne (pe_mB (k := 28) (pv 4) (hr.mono (by decide)) (pa_bin (pe_op op_add_str pe_str (pe_ix ix_list (pv 2) pe_int (fun _ _ => rfl))) pa_nil)) pe_str (nomark _))))) (pss_one (ps_ret pe_bl)) pss_nil) (pss_one (ps_ret (pe_and (pe_cB C__law_is_unknown (hr.mono (by decide)) pass01 (pa_name (pv 4) (pa_bin (pe_op op_add_str pe_str (pe_ix ix_list (pv 2) pe_int (fun _ _ => rfl))) pa_nil))) (pe_one (pe_cB C__law_is_unknown (hr.mono (by decide)) pass01 (pa_call (pe_mkB0 M_Desk (hr.mono (by decide))) (pa_bin (pe_op op_add_str pe_str (pe_ix ix_list (pv 2) pe_int (fun _ _ => rfl))) pa_nil)))))))))))))), ?_⟩
  refine ⟨_, rfl, a, ns, 107, rfl, hS, fun qd c L H1 s1 nq dr1 => ?_⟩
  have hS1 := hS.keep s1
  refine ⟨3, rfl, by decide, by decide, ?_⟩
  have zb0 := Int.emod_nonneg (ns.headD 0) (show (2147483647 : Int) ≠ 0 by decide)
  have zb1 := Int.emod_lt_of_pos (ns.headD 0) (show (0 : Int) < 2147483647 by decide)
  refine comp_range0 (lo := 0) (n := (3 : Int).toNat) (fun i σ ys H' => (∃ c0, σ = [c0, some (.ref a)]) ∧ ys = ((List.range i).map fun j : Nat => V.str (called (ns.headD 0 % 2147483647) (0 + (j : Int)))) ∧ H' = H1) ⟨⟨_, rfl⟩, rfl, rfl⟩ ?_ ?_ ?_
  · rintro i σ ys H' hi ⟨⟨c0, rfl⟩, rfl, rfl⟩
    rw [List.length_map, List.length_range]
    exact Nat.le_trans hi (by decide)
  · rintro i σ ys H' hi ⟨⟨c0, rfl⟩, rfl, rfl⟩
    have hi3 : i < 3 := hi
    exact ⟨_, rfl, a, ns, rfl, hS1, _, _, rfl, rfl, (by show (0 : Int) < 2147483647; decide), _, rfl, _, _, rfl, zb0, zb1, by omega, by omega, nx hi ⟨⟨_, rfl⟩, by rw [List.range_succ, List.map_append]; rfl, rfl⟩⟩
  rintro σ ys H' p ⟨⟨c0, rfl⟩, rfl, rfl⟩ hp
  generalize ns.headD 0 % 2147483647 = z at zb0 zb1 hp ⊢
  refine ⟨(by show 1 ≤ sizeLine; decide), fun p2 hp2 => ?_⟩
  have v1 := same_new hp (.lst ((List.range (3 : Int).toNat).map fun j : Nat => V.str (called z (0 + (j : Int)))))
  have v2 := same_new hp2 (.lst [.str (PySem.Str.ofString "abcdefgh")])
  refine ⟨p, p2, _, _, rfl, rfl, v2 _ _ upd_same, upd_same, (by rw [List.length_map, List.length_range]; decide), fun ln hln => ?_⟩
  have v3 := same_new hln (.lst (((List.range (3 : Int).toNat).map fun j : Nat => V.str (called z (0 + (j : Int)))) ++ [.str (PySem.Str.ofString "abcdefgh")]))
  have eN : ((List.range (3 : Int).toNat).map fun j : Nat => V.str (called z (0 + (j : Int)))) ++ [.str (PySem.Str.ofString "abcdefgh")] = (nms z).map V.str := nms_str z
  rw [eN] at v3 ⊢
  have u2 := (v1.trans v2).trans v3
  have hn2 : upd (upd (upd H' p (.lst ((List.range (3 : Int).toNat).map fun j : Nat => V.str (called z (0 + (j : Int)))))) p2 (.lst [.str (PySem.Str.ofString "abcdefgh")])) ln (.lst ((nms z).map V.str)) ln = some (.lst ((nms z).map V.str)) := upd_same
  generalize upd (upd (upd H' p (.lst ((List.range (3 : Int).toNat).map fun j : Nat => V.str (called z (0 + (j : Int)))))) p2 (.lst [.str (PySem.Str.ofString "abcdefgh")])) ln (.lst ((nms z).map V.str)) = H2 at u2 hn2 ⊢
  refine fun o dx no ndx ne => ⟨o, dx, rfl, upd_same, fun d hd => ⟨rfl, ?_⟩⟩
  obtain ⟨u3, ds3, nd3, no3⟩ := mk_desk (K := K) (q := qd) no ndx ne hd
  generalize upd (upd (upd (upd H2 dx (.own o)) o (.ins ad.Desk dx [])) d (.dK [])) o (.ins ad.Desk dx [("benches", .ref d)]) = H3 at u3 ds3 ⊢
  refine fun o2 dx2 no2 ndx2 ne2 => ⟨o2, dx2, rfl, upd_same, fun d2 hd2 => ⟨rfl, ?_⟩⟩
  obtain ⟨u4, ds4, nd4, no4⟩ := mk_desk (K := K) (q := qd) no2 ndx2 ne2 hd2
  generalize upd (upd (upd (upd H3 dx2 (.own o2)) o2 (.ins ad.Desk dx2 [])) d2 (.dK [])) o2 (.ins ad.Desk dx2 [("benches", .ref d2)]) = H4 at u4 ds4 ⊢
  obtain ⟨k3, hk3, _, _⟩ := ds3.d
  have nd2d : d2 ≠ d := fun e => by rw [e, hk3] at nd4; cases nd4
  refine fun dk hdk => ?_
  have u5 := same_new hdk (.dK [])
  obtain ⟨k4, hk4, _, _⟩ := ds4.d
  have nkd : d ≠ dk := fun e => by rw [← e, u4 _ _ hk3] at hdk; cases hdk
  have nkd2 : d2 ≠ dk := fun e => by rw [← e, hk4] at hdk; cases hdk
  have hdk5 : upd H4 dk (.dK []) dk = some (.dK []) := upd_same
  have lw5 : Lw72 K (upd H4 dk (.dK [])) ad.Desk o dx d dk ln qd c L (fun _ => none) 0 (nms z) := ⟨dr1.keep (((u2.trans u3).trans u4).trans u5), ds3.keep (u4.trans u5), ⟨[], [], upd_same, rfl, Nat.le_refl _, DicB.nil⟩, nkd, u5 _ _ (u4 _ _ (u3 _ _ hn2)), rfl, nms_ok z, fun x ps e => nomatch e⟩
  have ds5 := ds4.keep u5
  have hS5 := hS1.keep (((u2.trans u3).trans u4).trans u5)
  generalize upd H4 dk (.dK []) = H5 at lw5 ds5 hS5 ⊢
  refine ⟨_, rfl, _, rfl, _, rfl, a, _, rfl, hS5, fun p1 hp1 => ?_⟩
  have w1 := same_new hp1 (.lst (cutV (ns.map V.int) (some 1) (some 41)))
  have z1 := cutV_length (ns.map V.int) (some 1) (some 41)
  have z2 : (cutV (ns.map V.int) (some 1) (some 41)).length ≤ 40 := by
    unfold cutV
    rw [List.length_take, show HT.sIx (ns.map V.int).length 0 (some 1) = min 1 (ns.map V.int).length from HT.sIx_nat _ _ 1, show HT.sIx (ns.map V.int).length (ns.map V.int).length (some 41) = min 41 (ns.map V.int).length from HT.sIx_nat _ _ 41]
    omega
  generalize cutV (ns.map V.int) (some 1) (some 41) = L1 at w1 z1 z2 ⊢
  refine ⟨_, rfl, a, _, rfl, .inl (hS5.keep w1), (by show 1 ≤ sizeLine; decide), fun p2 hp2 => ?_⟩
  generalize hn : (((ns.map V.int).length : Nat) : Int) = nn at hp2 ⊢
  have w2 := same_new hp2 (.lst [.int nn])
  refine ⟨p1, p2, _, _, rfl, rfl, w2 _ _ upd_same, upd_same, Nat.le_trans (show L1.length + 1 ≤ 41 by omega) (by decide), fun lp hlp => ?_⟩
  have w3 := same_new hlp (.lst (L1 ++ [.int nn]))
  refine ⟨lp, rfl, ⟨_, SqL.of upd_same⟩, ?_⟩
  have u6 := (w1.trans w2).trans w3
  have hl6 : upd (upd (upd H5 p1 (.lst L1)) p2 (.lst [.int nn])) lp (.lst (L1 ++ [.int nn])) lp = some (.lst (L1 ++ [.int nn])) := upd_same
  have nlq : lp ≠ qd := fun e => by
    obtain ⟨za, zn, zn0, hz⟩ := (lw5.dr.keep (w1.trans w2)).d
    rw [e, hz] at hlp; cases hlp
  have lw6 := lw5.keep u6
  have ds6 := ds5.keep u6
  generalize upd (upd (upd H5 p1 (.lst L1)) p2 (.lst [.int nn])) lp (.lst (L1 ++ [.int nn])) = H6 at u6 hl6 lw6 ds6 ⊢
  have zx : (L1 ++ [V.int nn]).length ≤ 41 := by rw [List.length_append]; show L1.length + 1 ≤ 41; omega
  generalize L1 ++ [V.int nn] = xs at hl6 zx ⊢
  refine for_list (K := K) (a := lp) (xs := xs) (fun i σ H' => ∃ S c6 c7 c8, σ = [some (.ref a), some (.ref qd), some (.ref ln), some (.ref o), some (.ref o2), some (.ref dk), c6, c7, c8] ∧ Lw72 K H' ad.Desk o dx d dk ln qd c L S i (nms z) ∧ DkA K H' qd ad.Desk o2 dx2 d2 (fun _ => none) 0 ∧ H' lp = some (.lst xs)) ⟨_, _, _, _, rfl, lw6, ds6, hl6⟩ ?_ ?_ ?_
  · rintro i σ H' hi ⟨S, c6, c7, c8, rfl, lw, ds, hl⟩
    exact SqL.of hl
  · rintro i x σ H' hi ⟨S, c6, c7, c8, rfl, lw, ds, hl⟩
    have ix := lt_of_get hi
    refine ⟨_, rfl, _, rfl, _, rfl, _, rfl, o, dx, d, dk, ln, qd, c, L, S, i, nms z, rfl, lw, by omega, fun H7 S7 lw7 s7 => ?_⟩
    obtain ⟨ka, hka, _, _⟩ := lw.ds.d
    obtain ⟨kb, sb, hkb, _, _, _⟩ := lw.kp.x
    have ds7 := ds.beside s7 hka hkb lw.dr nd2d nkd2
    have hl7 : H7 lp = some (.lst xs) := s7 _ _ (fun e => by rw [e, hka] at hl; cases hl) (fun e => by rw [e, hkb] at hl; cases hl) nlq hl
    refine ⟨rfl, _, rfl, iteF' (by decide +kernel) ?_⟩
    obtain ⟨kvs, ss, hk, hs, hn7, db⟩ := lw7.kp.x
    refine for_dict (i := 5) rfl hk (fun fo j σ H8 => ∃ c7 c8, σ = [some (.ref a), some (.ref qd), some (.ref ln), some (.ref o), some (.ref o2), some (.ref dk), some x, c7, c8] ∧ Same (upd H7 dk (.frz fo (.dK kvs))) H8) (fun fo => ⟨_, _, rfl, Same.refl _⟩) ?_ ?_ ?_
    · rintro fo j σ H8 hj ⟨c7, c8, rfl, s8⟩
      exact s8 _ _ upd_same
    · rintro fo j kk v σ H8 hj ⟨c7, c8, rfl, s8⟩
      obtain ⟨y, ym, rfl⟩ : ∃ y, y ∈ ss ∧ Sum.inr y = kk := by
        have h1 : (kvs.map (·.1))[j]? = some kk := by rw [List.getElem?_map, hj]; rfl
        rw [hs] at h1
        obtain ⟨y, hy, e⟩ := List.mem_map.mp (List.mem_of_getElem? h1)
        exact ⟨y, hy, e⟩
      obtain ⟨ps, sy⟩ := key_some hs db ym
      have ny := (lw7.sn y ps sy).1
      have yl := ny.len
      obtain ⟨ok, l, ev, bn, nl⟩ := db.at sy
      have sF : SD dk H7 (upd H7 dk (.frz fo (.dK kvs))) := sd_upd
      have dsF := (lw7.ds.keepD hk lw7.ne sF).keep s8
      have bnF := (bna_d bn hk sF).keep s8
      refine ⟨_, rfl, o, _, dx, _, _, _, rfl, dsF.o, rfl, mc_say_S T hw, _, rfl, _, _, rfl, rfl, (by simp only [ls]; exact Nat.le_trans (show _ ≤ 20000 by omega) (by decide)), o, dx, d, qd, y, S7, i + 1, ps, rfl, dsF, ny, sy, fun H9 s9 => ?_⟩
      have g : DGet H9 dk (.str y) (some (.ref l)) := .inl ⟨kvs, .inr y, .inr ⟨fo, (s8.trans s9) _ _ upd_same⟩, rfl, ev.symm⟩
      refine ⟨_, rfl, _, _, _, _, rfl, .str _, isStr_b _, _, rfl, iteF ?_⟩
      refine ⟨_, rfl, _, rfl, _, rfl, dk, _, rfl, g, .ref l, ps, rfl, (bnF.keep s9).dv, ok.1, ok.2, fun H10 s10 => ⟨rfl, _, rfl, iteF' (by rw [decS, decide_eq_true rfl]; rfl) ?_⟩⟩
      exact ⟨_, _, rfl, s8.trans (s9.trans s10)⟩
    · rintro fo σ H8 ⟨c7, c8, rfl, s8⟩
      have st := thaw_same hk s8
      exact ⟨S7, _, _, _, rfl, lw7.keep st, ds7.keep st, st _ _ hl7⟩
  · rintro σ H7 ⟨S, c6, c7, c8, rfl, lw, ds, hl⟩
    have nm0 : Nm (called z 0) := called_ok z (by decide) (by decide)
    have nm1 : Nm (called z 1) := called_ok z (by decide) (by decide)
    have ll0 := nm0.len
    have ll1 := nm1.len
    obtain ⟨za, zn, zn0, hq⟩ := lw.dr.d
    obtain ⟨k7, hk7, _, _⟩ := ds.d
    refine ⟨_, rfl, o2, _, dx2, _, _, _, rfl, ds.o, rfl, mc_say_B T hw, _, rfl, ln, _, _, _, rfl, rfl, SqL.of lw.nm, nms_0 z, _, _, rfl, rfl, (by simp only [lb]; exact Nat.le_trans (show _ ≤ 20000 by omega) (by decide)), _, _, rfl, rfl, (by simp only [slen_app, lb, l1]; exact Nat.le_trans (show _ ≤ 20000 by omega) (by decide)), o2, dx2, d2, qd, called z 0, (fun _ => none), 0, [], (by rw [row_e]), ds, ⟨_, hq⟩, by decide, nm0, by decide, (fun _ h => nomatch h), by decide +kernel, by decide, ⟨by decide, fun _ h => nomatch h⟩, fun H8 s8 ds8 => ⟨rfl, _, rfl, iteF' (by decide +kernel) ?_⟩⟩
    have nm8 : H8 ln = some (.lst ((nms z).map V.str)) := s8 _ _ (fun e => by have := lw.nm; rw [e, hk7] at this; cases this) lw.nm
    refine ⟨_, rfl, o2, _, dx2, _, _, _, rfl, ds8.o, rfl, mc_say_S T hw, _, rfl, ln, _, _, _, rfl, rfl, SqL.of nm8, nms_0 z, _, _, rfl, rfl, (by simp only [ls]; exact Nat.le_trans (show _ ≤ 20000 by omega) (by decide)), o2, dx2, d2, qd, called z 0, _, _, toldL 5 [], rfl, ds8, nm0, setB_at, fun H9 s9 => ⟨rfl, _, rfl, iteF' (by decide +kernel) ?_⟩⟩
    have nm9 := s9 _ _ nm8
    refine ⟨_, rfl, _, rfl, ln, _, _, _, rfl, rfl, SqL.of nm9, nms_1 z, _, _, rfl, rfl, (by simp only [ls]; exact Nat.le_trans (show _ ≤ 20000 by omega) (by decide)), o2, dx2, d2, qd, called z 1, _, _, rfl, ds8.keep s9, nm1, setB_no (fun e => called_ne z e.symm), fun H10 s10 => ?_⟩
    refine ⟨_, rfl, iteT (fun o3 dx3 no3 ndx3 ne3 => ⟨o3, dx3, rfl, upd_same, fun d3 hd3 => ⟨rfl, ?_⟩⟩)⟩
    obtain ⟨u11, ds11, _, _⟩ := mk_desk (K := K) (q := qd) no3 ndx3 ne3 hd3
    generalize upd (upd (upd (upd H10 dx3 (.own o3)) o3 (.ins ad.Desk dx3 [])) d3 (.dK [])) o3 (.ins ad.Desk dx3 [("benches", .ref d3)]) = H11 at u11 ds11 ⊢
    have nm11 := u11 _ _ (s10 _ _ nm9)
    exact ⟨_, rfl, ln, _, _, _, rfl, rfl, SqL.of nm11, nms_0 z, _, _, rfl, rfl, (by simp only [ls]; exact Nat.le_trans (show _ ≤ 20000 by omega) (by decide)), o3, dx3, d3, qd, called z 0, _, _, rfl, ds11, nm0, rfl, fun H12 s12 => q H12⟩
theorem law_fd {fa : Addr} (F : TopFn K mg "law" s_law) (hmg : mg "law" = some (.ref fa)) : ∃ fd, Fun K "law" "law" s_law fa fd ∧ ∀ (s : Shared) (u : Value), BindsTo s fd ⟨[u], []⟩ [("_law_script", u)] := by
  obtain ⟨f, fd, F, hm⟩ := F.ex
  cases hmg.symm.trans hm
  obtain ⟨oc, od, kV, doc, pm, an, cdv, ct, osl, rfl, l, c⟩ := id F.ex
  exact ⟨_, F, fun s u => .of_eq rfl⟩
end
end K72
namespace K72
open PySem L2 Lib
theorem walk {l : PySem.W.OpenLaw} {q : Program} {loose : List Str} {XP : (Str → Option Value) → Heap → Prop} {YP : World → Heap → Prop} {d : DefRec} {K : Params → PySem.W.Frag} (hn : l.most = some 63) (hdf : d.params.defaults = [])
    (hY : ∀ (w : World) (h : Heap), YP w h → (K w.params).In h)
    (F : ∀ (w : World) (mg : Str → Option Value) (fa : Addr) (h : Heap), (K w.params).In h → h.Ns mainGlobals mg → mg d.name = some (.ref fa) →
      ∃ fd : FuncData, (∀ (s : Shared) (u : Value), BindsTo s fd ⟨[u], []⟩ [("_law_script", u)]) ∧ ∀ base : Heap, (K w.params).In base → base.Ns mainGlobals mg → FnOk l.prog w (K w.params) mg base (CX1 l.prog w) 30 fa fd ["_law_script"] (spLaw (K w.params))) :
    PySem.W.WalkO q loose XP YP l.row.toRowW d [] (fun f vs => PySem.call f vs) :=
  L2.walk_of (n := 63) (k := 30) (x := "_law_script") (CX := fun w => CX1 l.prog w) (sp := fun w => spLaw (K w.params)) hn (by decide) hdf ⟨rfl, by decide, by decide⟩ hY F (fun _ _ a ns hl _ hS => ⟨a, ns, rfl, hS, hl, fun _ => rfl⟩) fun _ _ _ _ _ z => by
    obtain ⟨_, _, _, _, _, _, _, _, _, _, _, _, q⟩ := z
    exact q
end K72
def PySem.W.Fast.tw14221589879286663261 : Unit := ()
def PySem.W.Fast.tw2627476774415909778 : Unit := ()
def PySem.W.Fast.tw16146274431994267517 : Unit := ()
def PySem.W.Fast.tw10475789689452226221 : Unit := ()
def PySem.W.Fast.tw9945052811727869409 : Unit := ()
def PySem.W.Fast.tw1809904209710895860 : Unit := ()
def PySem.W.Fast.tw2313076970555174052 : Unit := ()
def PySem.W.Fast.tw12118858417185815364 : Unit := ()
def PySem.W.Fast.tw10021736805281189385 : Unit := ()
def PySem.W.Fast.tw5701590237886358191 : Unit := ()
def PySem.W.Fast.tw16895141407937771140 : Unit := ()
def PySem.W.Fast.tw17237317318037728010 : Unit := ()
def PySem.W.Fast.tw12496196948612785162 : Unit := ()
def PySem.W.Fast.tw12698427150425029761 : Unit := ()
def PySem.W.Fast.tw5840036340683992258 : Unit := ()
def PySem.W.Fast.tw8665824232894323086 : Unit := ()
def PySem.W.Fast.tw4983731254908262788 : Unit := ()
def PySem.W.Fast.tw17559535730351705029 : Unit := ()
def PySem.W.Fast.tw9221918279189614613 : Unit := ()
def PySem.W.Fast.tw2197291351340466547 : Unit := ()
def PySem.W.Fast.tw11659451984453487875 : Unit := ()
def PySem.W.Fast.tw9561830649452536807 : Unit := ()
def PySem.W.Fast.tw1917955168302844258 : Unit := ()
def PySem.W.Fast.tw12646844226978414009 : Unit := ()
def PySem.W.Fast.tw6275404065615346164 : Unit := ()
def PySem.W.Fast.tw15819006363180626204 : Unit := ()
def PySem.W.Fast.tw9763296576750690961 : Unit := ()
def PySem.W.Fast.tw6837574957354873225 : Unit := ()
def PySem.W.Fast.tw10848432996331245173 : Unit := ()
def PySem.W.Fast.tw11157116175680655886 : Unit := ()
def PySem.W.Fast.tw5505988094962436599 : Unit := ()
def PySem.W.Fast.tw18033266130507696524 : Unit := ()
def PySem.W.Fast.tw3122964389869434447 : Unit := ()
def PySem.W.Fast.tw3270044915793442121 : Unit := ()
def PySem.W.Fast.tw11592296728324641779 : Unit := ()
def PySem.W.Fast.tw7799599807344273965 : Unit := ()
def PySem.W.Fast.tw14782860146439599775 : Unit := ()
def PySem.W.Fast.tw9610215886576078098 : Unit := ()
def PySem.W.Fast.tw5439208408442664111 : Unit := ()
def PySem.W.Fast.tw6650146378837398968 : Unit := ()
def PySem.W.Fast.tw14636451345575371163 : Unit := ()
def PySem.W.Fast.tw13985588697122195824 : Unit := ()
def PySem.W.Fast.tw4721942533006670513 : Unit := ()
def PySem.W.Fast.tw8384338318895944157 : Unit := ()
def PySem.W.Fast.tw16622952541658614106 : Unit := ()
def PySem.W.Fast.tw3712335603799069289 : Unit := ()
def PySem.W.Fast.tw5383968011007754512 : Unit := ()
def PySem.W.Fast.tw5753472496645530697 : Unit := ()
def PySem.W.Fast.tw8989139607356285636 : Unit := ()
def PySem.W.Fast.tw4764846859603108245 : Unit := ()
def PySem.W.Fast.tw15309668764678201093 : Unit := ()
def PySem.W.Fast.tw70697411669634154 : Unit := ()
def PySem.W.Fast.tw5267011116324208394 : Unit := ()
def PySem.W.Fast.tw7240883548197849473 : Unit := ()
def PySem.W.Fast.tw8494728139855268340 : Unit := ()
def PySem.W.Fast.tw16341356738496573237 : Unit := ()
def PySem.W.Fast.tw13613969347635882702 : Unit := ()
def PySem.W.Fast.tw2861621239150485421 : Unit := ()
def PySem.W.Fast.tw11311617718824486223 : Unit := ()
def PySem.W.Fast.tw15643599881138471682 : Unit := ()
def PySem.W.Fast.tw9204355673647404980 : Unit := ()
def PySem.W.Fast.tw15514036256856539386 : Unit := ()
def PySem.W.Fast.tw7746422730062393857 : Unit := ()
def PySem.W.Fast.tw11231992114345402859 : Unit := ()
def PySem.W.Fast.tw2662817616994323768 : Unit := ()
def PySem.W.Fast.tw8791775155139349992 : Unit := ()
def PySem.W.Fast.tw12042981348087480440 : Unit := ()
def PySem.W.Fast.tw11940550122972436672 : Unit := ()
def PySem.W.Fast.tw8757600825780007019 : Unit := ()
def PySem.W.Fast.tw14840353075468908057 : Unit := ()
def PySem.W.Fast.tw17211035806674240382 : Unit := ()
def PySem.W.Fast.tw7651779368898857221 : Unit := ()
def PySem.W.Fast.tw3473696081783108603 : Unit := ()
def PySem.W.Fast.tw17821525517180346921 : Unit := ()
def PySem.W.Fast.tw9072503013110463954 : Unit := ()
def PySem.W.Fast.tw6045116041202212401 : Unit := ()
def PySem.W.Fast.tw6167910763861032741 : Unit := ()
def PySem.W.Fast.tw7776445216461647811 : Unit := ()
def PySem.W.Fast.tw11857312895611159833 : Unit := ()
def PySem.W.Fast.tw14217663836717636847 : Unit := ()
def PySem.W.Fast.tw14332304233951902867 : Unit := ()
def PySem.W.Fast.tw500748336440274895 : Unit := ()
def PySem.W.Fast.tw8835417430103676605 : Unit := ()
def PySem.W.Fast.tw14755182443424773952 : Unit := ()
def PySem.W.Fast.tw2965427284610324901 : Unit := ()
def PySem.W.Fast.tw14375855435401580261 : Unit := ()
def PySem.W.Fast.tw5070913035406284390 : Unit := ()
def PySem.W.Fast.tw6251464052853910505 : Unit := ()
def PySem.W.Fast.tw14257378851538783179 : Unit := ()
def PySem.W.Fast.tw16714893162524264413 : Unit := ()
def PySem.W.Fast.tw15945828819246695042 : Unit := ()
def PySem.W.Fast.tw18353869649841451745 : Unit := ()
def PySem.W.Fast.tw5657788955749753506 : Unit := ()
def PySem.W.Fast.tw2309963161877612721 : Unit := ()
def PySem.W.Fast.tw15447971007587545176 : Unit := ()
def PySem.W.Fast.tw18012432631094495076 : Unit := ()
def PySem.W.Fast.tw17823866937026561707 : Unit := ()
def PySem.W.Fast.tw6138001691060359548 : Unit := ()
def PySem.W.Fast.tw3248926850553974707 : Unit := ()
def PySem.W.Fast.tw17030729112062518395 : Unit := ()
def PySem.W.Fast.tw5698526213274253830 : Unit := ()
def PySem.W.Fast.tw10390732620718510614 : Unit := ()
def PySem.W.Fast.tw10898301823373538238 : Unit := ()
def PySem.W.Fast.tw4531690826636035611 : Unit := ()
def PySem.W.Fast.tw3984686242064803263 : Unit := ()
def PySem.W.Fast.tw11636917862363494963 : Unit := ()
def PySem.W.Fast.tw580760193070272230 : Unit := ()
def PySem.W.Fast.tw1308170138691027406 : Unit := ()
def PySem.W.Fast.tw9465684936249909877 : Unit := ()
def PySem.W.Fast.tw4159811779470848517 : Unit := ()
def PySem.W.Fast.tw1389045439774737891 : Unit := ()
def PySem.W.Fast.tw8988640222490355394 : Unit := ()
def PySem.W.Fast.tw4950425211612265218 : Unit := ()
def PySem.W.Fast.tw10192402948552099026 : Unit := ()
def PySem.W.Fast.tw17977104387773239682 : Unit := ()
def PySem.W.Fast.tw18109920779463725302 : Unit := ()
def PySem.W.Fast.tw10599542542209894919 : Unit := ()
def PySem.W.Fast.tw6246367004887861651 : Unit := ()
def PySem.W.Fast.tw14598775081248256754 : Unit := ()
def PySem.W.Fast.tw14631042269115775131 : Unit := ()
def PySem.W.Fast.tw1170988043520502529 : Unit := ()
def PySem.W.Fast.tw1750944884412306181 : Unit := ()
def PySem.W.Fast.tw12241625782362728625 : Unit := ()
def PySem.W.Fast.tw10124183345396994433 : Unit := ()
def PySem.W.Fast.tw16113625989529706825 : Unit := ()
def PySem.W.Fast.tw12711853990066196443 : Unit := ()
def PySem.W.Fast.tw8403119958901384597 : Unit := ()
def PySem.W.Fast.tw13504747485086857928 : Unit := ()
def PySem.W.Fast.tw17807030822769869752 : Unit := ()
def PySem.W.Fast.tw7503601304457887505 : Unit := ()
def PySem.W.Fast.tw12288791311109718426 : Unit := ()
def PySem.W.Fast.tw10708529609624903131 : Unit := ()
def PySem.W.Fast.tw10336349872752756252 : Unit := ()
def PySem.W.Fast.tw5918455332582246583 : Unit := ()
def PySem.W.Fast.tw10774161054117889006 : Unit := ()
def PySem.W.Fast.tw18429193709764746670 : Unit := ()
def PySem.W.Fast.tw11225946741386102216 : Unit := ()
def PySem.W.Fast.tw16911523124533533382 : Unit := ()
def PySem.W.Fast.tw13795603527307959934 : Unit := ()
def PySem.W.Fast.tw168332033700514995 : Unit := ()
def PySem.W.Fast.tw7214627009715541202 : Unit := ()
def PySem.W.Fast.tw4471186178442426096 : Unit := ()
def PySem.W.Fast.tw549841680027100029 : Unit := ()
def PySem.W.Fast.tw1062168001060135137 : Unit := ()
def PySem.W.Fast.tw17175714773071834431 : Unit := ()
def PySem.W.Fast.tw6804067313593456589 : Unit := ()
def PySem.W.Fast.tw4925951833318024089 : Unit := ()
def PySem.W.Fast.tw14335792852844337637 : Unit := ()
def PySem.W.Fast.tw10132273935833338077 : Unit := ()
def PySem.W.Fast.tw9517615654707708484 : Unit := ()
def PySem.W.Fast.tw10016696172085677812 : Unit := ()
def PySem.W.Fast.tw2729758708907647859 : Unit := ()
def PySem.W.Fast.tw6914501084477907449 : Unit := ()
def PySem.W.Fast.tw17886470069396394430 : Unit := ()
def PySem.W.Fast.tw10733475206138487979 : Unit := ()
def PySem.W.Fast.tw4062719008910302544 : Unit := ()
def PySem.W.Fast.tw967294462834882457 : Unit := ()
def PySem.W.Fast.tw15904574193293113602 : Unit := ()
def PySem.W.Fast.tw5645443958022381740 : Unit := ()
def PySem.W.Fast.tw16686526944858340931 : Unit := ()
def PySem.W.Fast.tw17478794681273557521 : Unit := ()
def PySem.W.Fast.tw9901173184894493455 : Unit := ()
def PySem.W.Fast.tw2055849289012554558 : Unit := ()
def PySem.W.Fast.tw10924232077762489770 : Unit := ()
def PySem.W.Fast.tw260731099743336707 : Unit := ()
def PySem.W.Fast.tw2484442047136324995 : Unit := ()
def PySem.W.Fast.tw10113967602172387523 : Unit := ()
def PySem.W.Fast.tw10249523675770198760 : Unit := ()
def PySem.W.Fast.tw60744200669184784 : Unit := ()
def PySem.W.Fast.tw5895694163830829353 : Unit := ()
def PySem.W.Fast.tw3856853807998947920 : Unit := ()
def PySem.W.Fast.tw16687736055096498406 : Unit := ()
def PySem.W.Fast.tw92216148880010311 : Unit := ()
def PySem.W.Fast.tw9995153722867188107 : Unit := ()
def PySem.W.Fast.tw1618503360719586253 : Unit := ()
def PySem.W.Fast.tw16078918569639874841 : Unit := ()
def PySem.W.Fast.tw9947133109521752951 : Unit := ()
def PySem.W.Fast.tw7829223470685683907 : Unit := ()
def PySem.W.Fast.tw16438972953306835544 : Unit := ()
def PySem.W.Fast.tw17863920601417219541 : Unit := ()
def PySem.W.Fast.tw4715651382414668676 : Unit := ()
def PySem.W.Fast.tw15939786552482899122 : Unit := ()
def PySem.W.Fast.tw17520471140390920552 : Unit := ()
def PySem.W.Fast.tw11196965817331825779 : Unit := ()
def PySem.W.Fast.tw15233757741429294848 : Unit := ()
def PySem.W.Fast.tw16872763650644665857 : Unit := ()
def PySem.W.Fast.tw9215953699661290361 : Unit := ()
def PySem.W.Fast.tw7477466343222163462 : Unit := ()
def PySem.W.Fast.tw13209242289083305440 : Unit := ()
def PySem.W.Fast.tw12298660225573690103 : Unit := ()
def PySem.W.Fast.tw6298451380089839261 : Unit := ()
def PySem.W.Fast.tw359664899930854721 : Unit := ()
def PySem.W.Fast.tw16223346429911017759 : Unit := ()
def PySem.W.Fast.tw2261521172433736994 : Unit := ()
def PySem.W.Fast.tw15062169550252779426 : Unit := ()
def PySem.W.Fast.tw1498479188165456903 : Unit := ()
def PySem.W.Fast.tw6182497758766018717 : Unit := ()
def PySem.W.Fast.tw7047958547536810238 : Unit := ()
def PySem.W.Fast.tw12601929706987712519 : Unit := ()
def PySem.W.Fast.tw5026059006508512722 : Unit := ()
def PySem.W.Fast.tw14472942002142649320 : Unit := ()
def PySem.W.Fast.tw6915914485138400049 : Unit := ()
def PySem.W.Fast.tw12528167538983827134 : Unit := ()
def PySem.W.Fast.tw14046774008665179942 : Unit := ()
def PySem.W.Fast.tw8453241193581695805 : Unit := ()
def PySem.W.Fast.tw6671897202697873020 : Unit := ()
def PySem.W.Fast.tw1128998686593081711 : Unit := ()
def PySem.W.Fast.tw15091372294979268011 : Unit := ()
def PySem.W.Fast.tw4937129318954954814 : Unit := ()
def PySem.W.Fast.tw15514160812088502359 : Unit := ()
def PySem.W.Fast.tw16285629723838831255 : Unit := ()
def PySem.W.Fast.tw8995769592879700685 : Unit := ()
def PySem.W.Fast.tw8638772434987842473 : Unit := ()
def PySem.W.Fast.tw4775285255986271604 : Unit := ()
def PySem.W.Fast.tw7314902675291538640 : Unit := ()
def PySem.W.Fast.tw5011110562711505212 : Unit := ()
def PySem.W.Fast.tw2502394825173389005 : Unit := ()
def PySem.W.Fast.tw16095410237370699694 : Unit := ()
def PySem.W.Fast.tw5946387789598779355 : Unit := ()
def PySem.W.Fast.tw14499133172442688540 : Unit := ()
def PySem.W.Fast.tw6700251321232239909 : Unit := ()
def PySem.W.Fast.tw7977476230455542524 : Unit := ()
def PySem.W.Fast.tw15480385277053656334 : Unit := ()
def PySem.W.Fast.tw15667859810703590326 : Unit := ()
def PySem.W.Fast.tw9586917959636748686 : Unit := ()
def PySem.W.Fast.tw16756680653060327824 : Unit := ()
def PySem.W.Fast.tw12381165860049700560 : Unit := ()
def PySem.W.Fast.tw14437332378388379611 : Unit := ()
def PySem.W.Fast.tw16173893297194017813 : Unit := ()
def PySem.W.Fast.tw5787115019709440757 : Unit := ()
def PySem.W.Fast.tw17900426132365379805 : Unit := ()
def PySem.W.Fast.tw2468944904061637982 : Unit := ()
def PySem.W.Fast.tw16437261886800641658 : Unit := ()
def PySem.W.Fast.tw14232376274683462433 : Unit := ()
def PySem.W.Fast.tw1535911348523010878 : Unit := ()
def PySem.W.Fast.tw4806452917074728864 : Unit := ()
def PySem.W.Fast.tw9806925430964172291 : Unit := ()
def PySem.W.Fast.tw14120236370679849313 : Unit := ()
def PySem.W.Fast.tw67787133817812642 : Unit := ()
def PySem.W.Fast.tw16923137308319523695 : Unit := ()
def PySem.W.Fast.tw1316484764579732039 : Unit := ()
def PySem.W.Fast.tw14602170278999340187 : Unit := ()
def PySem.W.Fast.tw11533899124320162147 : Unit := ()
def PySem.W.Fast.tw13020637617342486893 : Unit := ()
def PySem.W.Fast.tw951200734021339525 : Unit := ()
def PySem.W.Fast.tw2424751023902043384 : Unit := ()
def PySem.W.Fast.tw3682225876847735396 : Unit := ()
def PySem.W.Fast.tw10494581231052488388 : Unit := ()
def PySem.W.Fast.tw8645977272863111920 : Unit := ()
def PySem.W.Fast.tw999153380855194759 : Unit := ()
def PySem.W.Fast.tw17510385037270232217 : Unit := ()
def PySem.W.Fast.tw2847527782809826112 : Unit := ()
def PySem.W.Fast.tw9284976237660162256 : Unit := ()
def PySem.W.Fast.tw186993682371977994 : Unit := ()
def PySem.W.Fast.tw6060753880042938586 : Unit := ()
def PySem.W.Fast.tw17261233167990739226 : Unit := ()
def PySem.W.Fast.tw1190604896640558117 : Unit := ()
def PySem.W.Fast.tw10208485502017324643 : Unit := ()
def PySem.W.Fast.tw4530967644205586415 : Unit := ()
def PySem.W.Fast.tw13913263883680630160 : Unit := ()
def PySem.W.Fast.tw11374426472618505930 : Unit := ()
def PySem.W.Fast.tw5381366301448682753 : Unit := ()
def PySem.W.Fast.tw8724446462736659818 : Unit := ()
def PySem.W.Fast.tw8595746624289137724 : Unit := ()
def PySem.W.Fast.tw14305737349356332040 : Unit := ()
def PySem.W.Fast.tw18268230278767594042 : Unit := ()
def PySem.W.Fast.tw17509316179783098492 : Unit := ()
def PySem.W.Fast.tw13721920286546370326 : Unit := ()
def PySem.W.Fast.tw235222646225808144 : Unit := ()
def PySem.W.Fast.tw8370587913284898691 : Unit := ()
def PySem.W.Fast.tw15121408205154314624 : Unit := ()
def PySem.W.Fast.tw2483758180614323461 : Unit := ()
def PySem.W.Fast.tw2680971594764405351 : Unit := ()
def PySem.W.Fast.tw13668299088163498129 : Unit := ()
def PySem.W.Fast.tw10413046466612244063 : Unit := ()
def PySem.W.Fast.tw15288292651013773583 : Unit := ()
open PySem PySem.W PyProof.Rows
set_option maxRecDepth 100000 in
set_option maxHeartbeats 0 in
theorem PySem.Challenge.cw_grindbench_k72_benches_made_of_others_holds : PySem.Challenge.rw_grindbench_k72_benches_made_of_others.Holds := by
  w_on; o_law; k_head; (case hw => w_witness2)
  k_fill
  refine K72.walk (l := PySem.Challenge.rw_grindbench_k72_benches_made_of_others) rfl rfl (fun w h Y => PySem.W.kIn_of Y) ?F
  case F =>
    intro w mg fa h KX G hmg
    have t_is_whole : L2.TopFn (L2.KOf KX) mg "is_whole" K72.s_is_whole := by
      dsimp only [L2.KOf]
      refine' L2.topFn_mk KX G ?a ?l ?c ?k
      (case a => k_is); (case l => k_is); (case c => k_is); (case k => k_is)
    have t_common_divisor : L2.TopFn (L2.KOf KX) mg "common_divisor" K72.s_common_divisor := by
      dsimp only [L2.KOf]
      refine' L2.topFn_mk KX G ?a ?l ?c ?k
      (case a => k_is); (case l => k_is); (case c => k_is); (case k => k_is)
    have t_is_ratio : L2.TopFn (L2.KOf KX) mg "is_ratio" K72.s_is_ratio := by
      dsimp only [L2.KOf]
      refine' L2.topFn_mk KX G ?a ?l ?c ?k
      (case a => k_is); (case l => k_is); (case c => k_is); (case k => k_is)
    have t_ratio_of : L2.TopFn (L2.KOf KX) mg "ratio_of" K72.s_ratio_of := by
      dsimp only [L2.KOf]
      refine' L2.topFn_mk KX G ?a ?l ?c ?k
      (case a => k_is); (case l => k_is); (case c => k_is); (case k => k_is)
    have t_sum_of : L2.TopFn (L2.KOf KX) mg "sum_of" K72.s_sum_of := by
      dsimp only [L2.KOf]
      refine' L2.topFn_mk KX G ?a ?l ?c ?k
      (case a => k_is); (case l => k_is); (case c => k_is); (case k => k_is)
    have t_less_by : L2.TopFn (L2.KOf KX) mg "less_by" K72.s_less_by := by
      dsimp only [L2.KOf]
      refine' L2.topFn_mk KX G ?a ?l ?c ?k
      (case a => k_is); (case l => k_is); (case c => k_is); (case k => k_is)
    have t_product_of : L2.TopFn (L2.KOf KX) mg "product_of" K72.s_product_of := by
      dsimp only [L2.KOf]
      refine' L2.topFn_mk KX G ?a ?l ?c ?k
      (case a => k_is); (case l => k_is); (case c => k_is); (case k => k_is)
    have t_quotient_of : L2.TopFn (L2.KOf KX) mg "quotient_of" K72.s_quotient_of := by
      dsimp only [L2.KOf]
      refine' L2.topFn_mk KX G ?a ?l ?c ?k
      (case a => k_is); (case l => k_is); (case c => k_is); (case k => k_is)
    have t_is_less : L2.TopFn (L2.KOf KX) mg "is_less" K72.s_is_less := by
      dsimp only [L2.KOf]
      refine' L2.topFn_mk KX G ?a ?l ?c ?k
      (case a => k_is); (case l => k_is); (case c => k_is); (case k => k_is)
    have t_is_piece : L2.TopFn (L2.KOf KX) mg "is_piece" K72.s_is_piece := by
      dsimp only [L2.KOf]
      refine' L2.topFn_mk KX G ?a ?l ?c ?k
      (case a => k_is); (case l => k_is); (case c => k_is); (case k => k_is)
    have t_piece_of : L2.TopFn (L2.KOf KX) mg "piece_of" K72.s_piece_of := by
      dsimp only [L2.KOf]
      refine' L2.topFn_mk KX G ?a ?l ?c ?k
      (case a => k_is); (case l => k_is); (case c => k_is); (case k => k_is)
    have t_look_at : L2.TopFn (L2.KOf KX) mg "look_at" K72.s_look_at := by
      dsimp only [L2.KOf]
      refine' L2.topFn_mk KX G ?a ?l ?c ?k
      (case a => k_is); (case l => k_is); (case c => k_is); (case k => k_is)
    have t_is_table : L2.TopFn (L2.KOf KX) mg "is_table" K72.s_is_table := by
      dsimp only [L2.KOf]
      refine' L2.topFn_mk KX G ?a ?l ?c ?k
      (case a => k_is); (case l => k_is); (case c => k_is); (case k => k_is)
    have t_look_at_table : L2.TopFn (L2.KOf KX) mg "look_at_table" K72.s_look_at_table := by
      dsimp only [L2.KOf]
      refine' L2.topFn_mk KX G ?a ?l ?c ?k
      (case a => k_is); (case l => k_is); (case c => k_is); (case k => k_is)
    have t_table_of_rays : L2.TopFn (L2.KOf KX) mg "table_of_rays" K72.s_table_of_rays := by
      dsimp only [L2.KOf]
      refine' L2.topFn_mk KX G ?a ?l ?c ?k
      (case a => k_is); (case l => k_is); (case c => k_is); (case k => k_is)
    have t_table_of : L2.TopFn (L2.KOf KX) mg "table_of" K72.s_table_of := by
      dsimp only [L2.KOf]
      refine' L2.topFn_mk KX G ?a ?l ?c ?k
      (case a => k_is); (case l => k_is); (case c => k_is); (case k => k_is)
    have t_made_by : L2.TopFn (L2.KOf KX) mg "made_by" K72.s_made_by := by
      dsimp only [L2.KOf]
      refine' L2.topFn_mk KX G ?a ?l ?c ?k
      (case a => k_is); (case l => k_is); (case c => k_is); (case k => k_is)
    have t_joined : L2.TopFn (L2.KOf KX) mg "joined" K72.s_joined := by
      dsimp only [L2.KOf]
      refine' L2.topFn_mk KX G ?a ?l ?c ?k
      (case a => k_is); (case l => k_is); (case c => k_is); (case k => k_is)
    have t_less : L2.TopFn (L2.KOf KX) mg "less" K72.s_less := by
      dsimp only [L2.KOf]
      refine' L2.topFn_mk KX G ?a ?l ?c ?k
      (case a => k_is); (case l => k_is); (case c => k_is); (case k => k_is)
    have t_part_short_of_one : L2.TopFn (L2.KOf KX) mg "part_short_of_one" K72.s_part_short_of_one := by
      dsimp only [L2.KOf]
      refine' L2.topFn_mk KX G ?a ?l ?c ?k
      (case a => k_is); (case l => k_is); (case c => k_is); (case k => k_is)
    have t_glass_gap_glass : L2.TopFn (L2.KOf KX) mg "glass_gap_glass" K72.s_glass_gap_glass := by
      dsimp only [L2.KOf]
      refine' L2.topFn_mk KX G ?a ?l ?c ?k
      (case a => k_is); (case l => k_is); (case c => k_is); (case k => k_is)
    have t_gap_glass_gap : L2.TopFn (L2.KOf KX) mg "gap_glass_gap" K72.s_gap_glass_gap := by
      dsimp only [L2.KOf]
      refine' L2.topFn_mk KX G ?a ?l ?c ?k
      (case a => k_is); (case l => k_is); (case c => k_is); (case k => k_is)
    have t_taken_apart : L2.TopFn (L2.KOf KX) mg "taken_apart" K72.s_taken_apart := by
      dsimp only [L2.KOf]
      refine' L2.topFn_mk KX G ?a ?l ?c ?k
      (case a => k_is); (case l => k_is); (case c => k_is); (case k => k_is)
    have t_is_stretch : L2.TopFn (L2.KOf KX) mg "is_stretch" K72.s_is_stretch := by
      dsimp only [L2.KOf]
      refine' L2.topFn_mk KX G ?a ?l ?c ?k
      (case a => k_is); (case l => k_is); (case c => k_is); (case k => k_is)
    have t_look_at_stretch : L2.TopFn (L2.KOf KX) mg "look_at_stretch" K72.s_look_at_stretch := by
      dsimp only [L2.KOf]
      refine' L2.topFn_mk KX G ?a ?l ?c ?k
      (case a => k_is); (case l => k_is); (case c => k_is); (case k => k_is)
    have t_is_box : L2.TopFn (L2.KOf KX) mg "is_box" K72.s_is_box := by
      dsimp only [L2.KOf]
      refine' L2.topFn_mk KX G ?a ?l ?c ?k
      (case a => k_is); (case l => k_is); (case c => k_is); (case k => k_is)
    have t_look_at_box : L2.TopFn (L2.KOf KX) mg "look_at_box" K72.s_look_at_box := by
      dsimp only [L2.KOf]
      refine' L2.topFn_mk KX G ?a ?l ?c ?k
      (case a => k_is); (case l => k_is); (case c => k_is); (case k => k_is)
    have t_limits_of : L2.TopFn (L2.KOf KX) mg "limits_of" K72.s_limits_of := by
      dsimp only [L2.KOf]
      refine' L2.topFn_mk KX G ?a ?l ?c ?k
      (case a => k_is); (case l => k_is); (case c => k_is); (case k => k_is)
    have t_is_before : L2.TopFn (L2.KOf KX) mg "is_before" K72.s_is_before := by
      dsimp only [L2.KOf]
      refine' L2.topFn_mk KX G ?a ?l ?c ?k
      (case a => k_is); (case l => k_is); (case c => k_is); (case k => k_is)
    have t_corners_of : L2.TopFn (L2.KOf KX) mg "corners_of" K72.s_corners_of := by
      dsimp only [L2.KOf]
      refine' L2.topFn_mk KX G ?a ?l ?c ?k
      (case a => k_is); (case l => k_is); (case c => k_is); (case k => k_is)
    have t_edges_of : L2.TopFn (L2.KOf KX) mg "edges_of" K72.s_edges_of := by
      dsimp only [L2.KOf]
      refine' L2.topFn_mk KX G ?a ?l ?c ?k
      (case a => k_is); (case l => k_is); (case c => k_is); (case k => k_is)
    have t_room_at : L2.TopFn (L2.KOf KX) mg "room_at" K72.s_room_at := by
      dsimp only [L2.KOf]
      refine' L2.topFn_mk KX G ?a ?l ?c ?k
      (case a => k_is); (case l => k_is); (case c => k_is); (case k => k_is)
    have t_crossing_of : L2.TopFn (L2.KOf KX) mg "crossing_of" K72.s_crossing_of := by
      dsimp only [L2.KOf]
      refine' L2.topFn_mk KX G ?a ?l ?c ?k
      (case a => k_is); (case l => k_is); (case c => k_is); (case k => k_is)
    have t_cut_by : L2.TopFn (L2.KOf KX) mg "cut_by" K72.s_cut_by := by
      dsimp only [L2.KOf]
      refine' L2.topFn_mk KX G ?a ?l ?c ?k
      (case a => k_is); (case l => k_is); (case c => k_is); (case k => k_is)
    have t_from_the_least : L2.TopFn (L2.KOf KX) mg "from_the_least" K72.s_from_the_least := by
      dsimp only [L2.KOf]
      refine' L2.topFn_mk KX G ?a ?l ?c ?k
      (case a => k_is); (case l => k_is); (case c => k_is); (case k => k_is)
    have t_field_of : L2.TopFn (L2.KOf KX) mg "field_of" K72.s_field_of := by
      dsimp only [L2.KOf]
      refine' L2.topFn_mk KX G ?a ?l ?c ?k
      (case a => k_is); (case l => k_is); (case c => k_is); (case k => k_is)
    have t_show_ratio : L2.TopFn (L2.KOf KX) mg "show_ratio" K72.s_show_ratio := by
      dsimp only [L2.KOf]
      refine' L2.topFn_mk KX G ?a ?l ?c ?k
      (case a => k_is); (case l => k_is); (case c => k_is); (case k => k_is)
    have t_read_part_figures : L2.TopFnA (L2.KOf KX) mg "read_part_figures" "read_part" K72.s_read_part_figures := by
      dsimp only [L2.KOf]
      refine' L2.topFnA_mk KX G ?a ?l ?c ?k
      (case a => k_is); (case l => k_is); (case c => k_is); (case k => k_is)
    have t_read_ratio : L2.TopFn (L2.KOf KX) mg "read_ratio" K72.s_read_ratio := by
      dsimp only [L2.KOf]
      refine' L2.topFn_mk KX G ?a ?l ?c ?k
      (case a => k_is); (case l => k_is); (case c => k_is); (case k => k_is)
    have t_spread_of : L2.TopFn (L2.KOf KX) mg "spread_of" K72.s_spread_of := by
      dsimp only [L2.KOf]
      refine' L2.topFn_mk KX G ?a ?l ?c ?k
      (case a => k_is); (case l => k_is); (case c => k_is); (case k => k_is)
    have t_image_of : L2.TopFn (L2.KOf KX) mg "image_of" K72.s_image_of := by
      dsimp only [L2.KOf]
      refine' L2.topFn_mk KX G ?a ?l ?c ?k
      (case a => k_is); (case l => k_is); (case c => k_is); (case k => k_is)
    have t_growth_of : L2.TopFn (L2.KOf KX) mg "growth_of" K72.s_growth_of := by
      dsimp only [L2.KOf]
      refine' L2.topFn_mk KX G ?a ?l ?c ?k
      (case a => k_is); (case l => k_is); (case c => k_is); (case k => k_is)
    have t_in_order : L2.TopFn (L2.KOf KX) mg "in_order" K72.s_in_order := by
      dsimp only [L2.KOf]
      refine' L2.topFn_mk KX G ?a ?l ?c ?k
      (case a => k_is); (case l => k_is); (case c => k_is); (case k => k_is)
    have t_lesser_of : L2.TopFn (L2.KOf KX) mg "lesser_of" K72.s_lesser_of := by
      dsimp only [L2.KOf]
      refine' L2.topFn_mk KX G ?a ?l ?c ?k
      (case a => k_is); (case l => k_is); (case c => k_is); (case k => k_is)
    have t_greater_of : L2.TopFn (L2.KOf KX) mg "greater_of" K72.s_greater_of := by
      dsimp only [L2.KOf]
      refine' L2.topFn_mk KX G ?a ?l ?c ?k
      (case a => k_is); (case l => k_is); (case c => k_is); (case k => k_is)
    have t_slants_by : L2.TopFn (L2.KOf KX) mg "slants_by" K72.s_slants_by := by
      dsimp only [L2.KOf]
      refine' L2.topFn_mk KX G ?a ?l ?c ?k
      (case a => k_is); (case l => k_is); (case c => k_is); (case k => k_is)
    have t_slants_of : L2.TopFn (L2.KOf KX) mg "slants_of" K72.s_slants_of := by
      dsimp only [L2.KOf]
      refine' L2.topFn_mk KX G ?a ?l ?c ?k
      (case a => k_is); (case l => k_is); (case c => k_is); (case k => k_is)
    have t_height_at : L2.TopFn (L2.KOf KX) mg "height_at" K72.s_height_at := by
      dsimp only [L2.KOf]
      refine' L2.topFn_mk KX G ?a ?l ?c ?k
      (case a => k_is); (case l => k_is); (case c => k_is); (case k => k_is)
    have t_spots_of : L2.TopFn (L2.KOf KX) mg "spots_of" K72.s_spots_of := by
      dsimp only [L2.KOf]
      refine' L2.topFn_mk KX G ?a ?l ?c ?k
      (case a => k_is); (case l => k_is); (case c => k_is); (case k => k_is)
    have t_blur_of : L2.TopFn (L2.KOf KX) mg "blur_of" K72.s_blur_of := by
      dsimp only [L2.KOf]
      refine' L2.topFn_mk KX G ?a ?l ?c ?k
      (case a => k_is); (case l => k_is); (case c => k_is); (case k => k_is)
    have t_is_name : L2.TopFn (L2.KOf KX) mg "is_name" K72.s_is_name := by
      dsimp only [L2.KOf]
      refine' L2.topFn_mk KX G ?a ?l ?c ?k
      (case a => k_is); (case l => k_is); (case c => k_is); (case k => k_is)
    have t_walk_of : L2.TopFn (L2.KOf KX) mg "walk_of" K72.s_walk_of := by
      dsimp only [L2.KOf]
      refine' L2.topFn_mk KX G ?a ?l ?c ?k
      (case a => k_is); (case l => k_is); (case c => k_is); (case k => k_is)
    have t_rounds_of : L2.TopFn (L2.KOf KX) mg "rounds_of" K72.s_rounds_of := by
      dsimp only [L2.KOf]
      refine' L2.topFn_mk KX G ?a ?l ?c ?k
      (case a => k_is); (case l => k_is); (case c => k_is); (case k => k_is)
    have t_sharp_places : L2.TopFn (L2.KOf KX) mg "sharp_places" K72.s_sharp_places := by
      dsimp only [L2.KOf]
      refine' L2.topFn_mk KX G ?a ?l ?c ?k
      (case a => k_is); (case l => k_is); (case c => k_is); (case k => k_is)
    have t_words_of : L2.TopFn (L2.KOf KX) mg "words_of" K72.s_words_of := by
      dsimp only [L2.KOf]
      refine' L2.topFn_mk KX G ?a ?l ?c ?k
      (case a => k_is); (case l => k_is); (case c => k_is); (case k => k_is)
    have t_read_number_texts : L2.TopFnA (L2.KOf KX) mg "read_number_texts" "read_number" K72.s_read_number_texts := by
      dsimp only [L2.KOf]
      refine' L2.topFnA_mk KX G ?a ?l ?c ?k
      (case a => k_is); (case l => k_is); (case c => k_is); (case k => k_is)
    have t_read_times : L2.TopFn (L2.KOf KX) mg "read_times" K72.s_read_times := by
      dsimp only [L2.KOf]
      refine' L2.topFn_mk KX G ?a ?l ?c ?k
      (case a => k_is); (case l => k_is); (case c => k_is); (case k => k_is)
    have t_read_round : L2.TopFn (L2.KOf KX) mg "read_round" K72.s_read_round := by
      dsimp only [L2.KOf]
      refine' L2.topFn_mk KX G ?a ?l ?c ?k
      (case a => k_is); (case l => k_is); (case c => k_is); (case k => k_is)
    have t_read_part_texts : L2.TopFnA (L2.KOf KX) mg "read_part_texts" "read_part" K72.s_read_part_texts := by
      dsimp only [L2.KOf]
      refine' L2.topFnA_mk KX G ?a ?l ?c ?k
      (case a => k_is); (case l => k_is); (case c => k_is); (case k => k_is)
    have t_read_parts : L2.TopFn (L2.KOf KX) mg "read_parts" K72.s_read_parts := by
      dsimp only [L2.KOf]
      refine' L2.topFn_mk KX G ?a ?l ?c ?k
      (case a => k_is); (case l => k_is); (case c => k_is); (case k => k_is)
    have t_count_of : L2.TopFn (L2.KOf KX) mg "count_of" K72.s_count_of := by
      dsimp only [L2.KOf]
      refine' L2.topFn_mk KX G ?a ?l ?c ?k
      (case a => k_is); (case l => k_is); (case c => k_is); (case k => k_is)
    have t_told_out : L2.TopFn (L2.KOf KX) mg "told_out" K72.s_told_out := by
      dsimp only [L2.KOf]
      refine' L2.topFn_mk KX G ?a ?l ?c ?k
      (case a => k_is); (case l => k_is); (case c => k_is); (case k => k_is)
    have t_read_bench : L2.TopFn (L2.KOf KX) mg "read_bench" K72.s_read_bench := by
      dsimp only [L2.KOf]
      refine' L2.topFn_mk KX G ?a ?l ?c ?k
      (case a => k_is); (case l => k_is); (case c => k_is); (case k => k_is)
    have t_show_piece : L2.TopFn (L2.KOf KX) mg "show_piece" K72.s_show_piece := by
      dsimp only [L2.KOf]
      refine' L2.topFn_mk KX G ?a ?l ?c ?k
      (case a => k_is); (case l => k_is); (case c => k_is); (case k => k_is)
    have t_show_bench : L2.TopFn (L2.KOf KX) mg "show_bench" K72.s_show_bench := by
      dsimp only [L2.KOf]
      refine' L2.topFn_mk KX G ?a ?l ?c ?k
      (case a => k_is); (case l => k_is); (case c => k_is); (case k => k_is)
    have t_turned_bench : L2.TopFn (L2.KOf KX) mg "turned_bench" K72.s_turned_bench := by
      dsimp only [L2.KOf]
      refine' L2.topFn_mk KX G ?a ?l ?c ?k
      (case a => k_is); (case l => k_is); (case c => k_is); (case k => k_is)
    have t_shown : L2.TopFn (L2.KOf KX) mg "shown" K72.s_shown := by
      dsimp only [L2.KOf]
      refine' L2.topFn_mk KX G ?a ?l ?c ?k
      (case a => k_is); (case l => k_is); (case c => k_is); (case k => k_is)
    have t_show_answer : L2.TopFn (L2.KOf KX) mg "show_answer" K72.s_show_answer := by
      dsimp only [L2.KOf]
      refine' L2.topFn_mk KX G ?a ?l ?c ?k
      (case a => k_is); (case l => k_is); (case c => k_is); (case k => k_is)
    have t_walk_answer : L2.TopFn (L2.KOf KX) mg "walk_answer" K72.s_walk_answer := by
      dsimp only [L2.KOf]
      refine' L2.topFn_mk KX G ?a ?l ?c ?k
      (case a => k_is); (case l => k_is); (case c => k_is); (case k => k_is)
    have t_table_answer : L2.TopFn (L2.KOf KX) mg "table_answer" K72.s_table_answer := by
      dsimp only [L2.KOf]
      refine' L2.topFn_mk KX G ?a ?l ?c ?k
      (case a => k_is); (case l => k_is); (case c => k_is); (case k => k_is)
    have t_apart_answer : L2.TopFn (L2.KOf KX) mg "apart_answer" K72.s_apart_answer := by
      dsimp only [L2.KOf]
      refine' L2.topFn_mk KX G ?a ?l ?c ?k
      (case a => k_is); (case l => k_is); (case c => k_is); (case k => k_is)
    have t_image_answer : L2.TopFn (L2.KOf KX) mg "image_answer" K72.s_image_answer := by
      dsimp only [L2.KOf]
      refine' L2.topFn_mk KX G ?a ?l ?c ?k
      (case a => k_is); (case l => k_is); (case c => k_is); (case k => k_is)
    have t_field_answer : L2.TopFn (L2.KOf KX) mg "field_answer" K72.s_field_answer := by
      dsimp only [L2.KOf]
      refine' L2.topFn_mk KX G ?a ?l ?c ?k
      (case a => k_is); (case l => k_is); (case c => k_is); (case k => k_is)
    have t_sharp_answer : L2.TopFn (L2.KOf KX) mg "sharp_answer" K72.s_sharp_answer := by
      dsimp only [L2.KOf]
      refine' L2.topFn_mk KX G ?a ?l ?c ?k
      (case a => k_is); (case l => k_is); (case c => k_is); (case k => k_is)
    have t_rounds_answer : L2.TopFn (L2.KOf KX) mg "rounds_answer" K72.s_rounds_answer := by
      dsimp only [L2.KOf]
      refine' L2.topFn_mk KX G ?a ?l ?c ?k
      (case a => k_is); (case l => k_is); (case c => k_is); (case k => k_is)
    have t_look_at_name : L2.TopFn (L2.KOf KX) mg "look_at_name" K72.s_look_at_name := by
      dsimp only [L2.KOf]
      refine' L2.topFn_mk KX G ?a ?l ?c ?k
      (case a => k_is); (case l => k_is); (case c => k_is); (case k => k_is)
    have t_read_number_desk : L2.TopFnA (L2.KOf KX) mg "read_number_desk" "read_number" K72.s_read_number_desk := by
      dsimp only [L2.KOf]
      refine' L2.topFnA_mk KX G ?a ?l ?c ?k
      (case a => k_is); (case l => k_is); (case c => k_is); (case k => k_is)
    have t_read_row : L2.TopFn (L2.KOf KX) mg "read_row" K72.s_read_row := by
      dsimp only [L2.KOf]
      refine' L2.topFn_mk KX G ?a ?l ?c ?k
      (case a => k_is); (case l => k_is); (case c => k_is); (case k => k_is)
    have t__law_cell_at : L2.TopFn (L2.KOf KX) mg "_law_cell_at" K72.s__law_cell_at := by
      dsimp only [L2.KOf]
      refine' L2.topFn_mk KX G ?a ?l ?c ?k
      (case a => k_is); (case l => k_is); (case c => k_is); (case k => k_is)
    have t__law_drawn : L2.TopFn (L2.KOf KX) mg "_law_drawn" K72.s__law_drawn := by
      dsimp only [L2.KOf]
      refine' L2.topFn_mk KX G ?a ?l ?c ?k
      (case a => k_is); (case l => k_is); (case c => k_is); (case k => k_is)
    have t__law_draw : L2.TopFn (L2.KOf KX) mg "_law_draw" K72.s__law_draw := by
      dsimp only [L2.KOf]
      refine' L2.topFn_mk KX G ?a ?l ?c ?k
      (case a => k_is); (case l => k_is); (case c => k_is); (case k => k_is)
    have t__law_low : L2.TopFn (L2.KOf KX) mg "_law_low" K72.s__law_low := by
      dsimp only [L2.KOf]
      refine' L2.topFn_mk KX G ?a ?l ?c ?k
      (case a => k_is); (case l => k_is); (case c => k_is); (case k => k_is)
    have t__law_under : L2.TopFn (L2.KOf KX) mg "_law_under" K72.s__law_under := by
      dsimp only [L2.KOf]
      refine' L2.topFn_mk KX G ?a ?l ?c ?k
      (case a => k_is); (case l => k_is); (case c => k_is); (case k => k_is)
    have t__law_part : L2.TopFn (L2.KOf KX) mg "_law_part" K72.s__law_part := by
      dsimp only [L2.KOf]
      refine' L2.topFn_mk KX G ?a ?l ?c ?k
      (case a => k_is); (case l => k_is); (case c => k_is); (case k => k_is)
    have t__law_piece : L2.TopFn (L2.KOf KX) mg "_law_piece" K72.s__law_piece := by
      dsimp only [L2.KOf]
      refine' L2.topFn_mk KX G ?a ?l ?c ?k
      (case a => k_is); (case l => k_is); (case c => k_is); (case k => k_is)
    have t__law_plus : L2.TopFn (L2.KOf KX) mg "_law_plus" K72.s__law_plus := by
      dsimp only [L2.KOf]
      refine' L2.topFn_mk KX G ?a ?l ?c ?k
      (case a => k_is); (case l => k_is); (case c => k_is); (case k => k_is)
    have t__law_less : L2.TopFn (L2.KOf KX) mg "_law_less" K72.s__law_less := by
      dsimp only [L2.KOf]
      refine' L2.topFn_mk KX G ?a ?l ?c ?k
      (case a => k_is); (case l => k_is); (case c => k_is); (case k => k_is)
    have t__law_written : L2.TopFn (L2.KOf KX) mg "_law_written" K72.s__law_written := by
      dsimp only [L2.KOf]
      refine' L2.topFn_mk KX G ?a ?l ?c ?k
      (case a => k_is); (case l => k_is); (case c => k_is); (case k => k_is)
    have t__law_shown : L2.TopFn (L2.KOf KX) mg "_law_shown" K72.s__law_shown := by
      dsimp only [L2.KOf]
      refine' L2.topFn_mk KX G ?a ?l ?c ?k
      (case a => k_is); (case l => k_is); (case c => k_is); (case k => k_is)
    have t__law_piece_text : L2.TopFn (L2.KOf KX) mg "_law_piece_text" K72.s__law_piece_text := by
      dsimp only [L2.KOf]
      refine' L2.topFn_mk KX G ?a ?l ?c ?k
      (case a => k_is); (case l => k_is); (case c => k_is); (case k => k_is)
    have t__law_text : L2.TopFn (L2.KOf KX) mg "_law_text" K72.s__law_text := by
      dsimp only [L2.KOf]
      refine' L2.topFn_mk KX G ?a ?l ?c ?k
      (case a => k_is); (case l => k_is); (case c => k_is); (case k => k_is)
    have t__law_called : L2.TopFn (L2.KOf KX) mg "_law_called" K72.s__law_called := by
      dsimp only [L2.KOf]
      refine' L2.topFn_mk KX G ?a ?l ?c ?k
      (case a => k_is); (case l => k_is); (case c => k_is); (case k => k_is)
    have t__law_benches : L2.TopFn (L2.KOf KX) mg "_law_benches" K72.s__law_benches := by
      dsimp only [L2.KOf]
      refine' L2.topFn_mk KX G ?a ?l ?c ?k
      (case a => k_is); (case l => k_is); (case c => k_is); (case k => k_is)
    have t__law_is_unknown : L2.TopFn (L2.KOf KX) mg "_law_is_unknown" K72.s__law_is_unknown := by
      dsimp only [L2.KOf]
      refine' L2.topFn_mk KX G ?a ?l ?c ?k
      (case a => k_is); (case l => k_is); (case c => k_is); (case k => k_is)
    have t__law_done : L2.TopFn (L2.KOf KX) mg "_law_done" K72.s__law_done := by
      dsimp only [L2.KOf]
      refine' L2.topFn_mk KX G ?a ?l ?c ?k
      (case a => k_is); (case l => k_is); (case c => k_is); (case k => k_is)
    have t_law : L2.TopFn (L2.KOf KX) mg "law" K72.s_law := by
      dsimp only [L2.KOf]
      refine' L2.topFn_mk KX G ?a ?l ?c ?k
      (case a => k_is); (case l => k_is); (case c => k_is); (case k => k_is)
    have z_abs : mg "abs" = none := by
      refine' PySem.W.mg_none_of KX G ?a
      (case a => k_is)
    have z_all : mg "all" = none := by
      refine' PySem.W.mg_none_of KX G ?a
      (case a => k_is)
    have z_bool : mg "bool" = none := by
      refine' PySem.W.mg_none_of KX G ?a
      (case a => k_is)
    have z_enumerate : mg "enumerate" = none := by
      refine' PySem.W.mg_none_of KX G ?a
      (case a => k_is)
    have z_int : mg "int" = none := by
      refine' PySem.W.mg_none_of KX G ?a
      (case a => k_is)
    have z_isinstance : mg "isinstance" = none := by
      refine' PySem.W.mg_none_of KX G ?a
      (case a => k_is)
    have z_len : mg "len" = none := by
      refine' PySem.W.mg_none_of KX G ?a
      (case a => k_is)
    have z_list : mg "list" = none := by
      refine' PySem.W.mg_none_of KX G ?a
      (case a => k_is)
    have z_range : mg "range" = none := by
      refine' PySem.W.mg_none_of KX G ?a
      (case a => k_is)
    have z_reversed : mg "reversed" = none := by
      refine' PySem.W.mg_none_of KX G ?a
      (case a => k_is)
    have z_sorted : mg "sorted" = none := by
      refine' PySem.W.mg_none_of KX G ?a
      (case a => k_is)
    have z_str : mg "str" = none := by
      refine' PySem.W.mg_none_of KX G ?a
      (case a => k_is)
    have z_tuple : mg "tuple" = none := by
      refine' PySem.W.mg_none_of KX G ?a
      (case a => k_is)
    have X0 : ∃ ad, K72.Exc (L2.KOf KX) mg ad ∧ w.params = ad.pr := by
      dsimp only [L2.KOf]
      refine' ⟨_, K72.exc_mk w.params KX G ?m_BenchError ?m_NoNumber ?m_NoText ?m_NoTable ?m_NoBox ?m_NoRow ?m_Unknown ?m_NoBench ?m_Piece ?m_Gap ?m_Glass ?m_Stop ?m_Reader ?m_Desk ?m_GAP ?m_GLASS ?m_STOP ?m_MOST_PIECES ?m_FIGURES ?m_MOST_FIGURES ?m_PARTED ?m_TIMES ?m_OPENED ?m_CLOSED ?m_MOST_TIMES ?m_MOST_DEEP ?m_LETTERS ?m_MOST_LETTERS ?m_DONE ?m_NONE ?o_NoText ?o_Unknown ?x_NoText_NoText ?x_Unknown_Unknown ?pg_Gap ?hd_Gap ?po_Gap ?sa_Gap ?mk_Gap_init ?a_Gap_init ?fn_Gap_init ?kc_Gap_init ?l_Gap_init ?c_Gap_init ?kp_Gap_init ?a_Gap_lets ?fn_Gap_lets ?kp_Gap_lets ?l_Gap_lets ?c_Gap_lets ?a_Gap_bent ?fn_Gap_bent ?kp_Gap_bent ?l_Gap_bent ?c_Gap_bent ?n_Gap_length ?pg_Glass ?hd_Glass ?po_Glass ?sa_Glass ?mk_Glass_init ?a_Glass_init ?fn_Glass_init ?kc_Glass_init ?l_Glass_init ?c_Glass_init ?kp_Glass_init ?a_Glass_lets ?fn_Glass_lets ?kp_Glass_lets ?l_Glass_lets ?c_Glass_lets ?a_Glass_bent ?fn_Glass_bent ?kp_Glass_bent ?l_Glass_bent ?c_Glass_bent ?n_Glass_strength ?pg_Stop ?hd_Stop ?po_Stop ?sa_Stop ?mk_Stop_init ?a_Stop_init ?fn_Stop_init ?kc_Stop_init ?l_Stop_init ?c_Stop_init ?kp_Stop_init ?a_Stop_lets ?fn_Stop_lets ?kp_Stop_lets ?l_Stop_lets ?c_Stop_lets ?a_Stop_bent ?fn_Stop_bent ?kp_Stop_bent ?l_Stop_bent ?c_Stop_bent ?n_Stop_low ?n_Stop_high ?pg_Reader ?hd_Reader ?po_Reader ?sa_Reader ?mk_Reader_init ?a_Reader_init ?fn_Reader_init ?kc_Reader_init ?l_Reader_init ?c_Reader_init ?kp_Reader_init ?a_Reader_is_done ?fn_Reader_is_done ?kp_Reader_is_done ?l_Reader_is_done ?c_Reader_is_done ?a_Reader_take ?fn_Reader_take ?kp_Reader_take ?l_Reader_take ?c_Reader_take ?a_Reader_take_if ?fn_Reader_take_if ?kp_Reader_take_if ?l_Reader_take_if ?c_Reader_take_if ?n_Reader_words ?n_Reader_place ?pg_Desk ?hd_Desk ?po_Desk ?sa_Desk ?mk_Desk_init ?a_Desk_init ?fn_Desk_init ?kc_Desk_init ?l_Desk_init ?c_Desk_init ?kp_Desk_init ?a_Desk_say ?fn_Desk_say ?kp_Desk_say ?l_Desk_say ?c_Desk_say ?a_Desk_lay ?fn_Desk_lay ?kp_Desk_lay ?l_Desk_lay ?c_Desk_lay ?a_Desk_bench_by ?fn_Desk_bench_by ?kp_Desk_bench_by ?l_Desk_bench_by ?c_Desk_bench_by ?a_Desk_keep ?fn_Desk_keep ?kp_Desk_keep ?l_Desk_keep ?c_Desk_keep ?n_Desk_benches ?m_NOUGHT ?lk_NOUGHT ?m_ONE ?lk_ONE ?m_LEAVING ?lk_LEAVING ?m_ROWS ?lk_ROWS ?hh_ROWS_join ?hh_ROWS_turn ?hh_ROWS_show ?hh_ROWS_walk ?hh_ROWS_table ?hh_ROWS_apart ?hh_ROWS_image ?hh_ROWS_field ?hh_ROWS_sharp ?hh_ROWS_rounds ?ns_ROWS ?lk_ROWS_join ?lk_ROWS_turn ?lk_ROWS_show ?lk_ROWS_walk ?lk_ROWS_table ?lk_ROWS_apart ?lk_ROWS_image ?lk_ROWS_field ?lk_ROWS_sharp ?lk_ROWS_rounds ?m_ANSWERS ?f_ANSWERS_show ?f_ANSWERS_walk ?f_ANSWERS_table ?f_ANSWERS_apart ?f_ANSWERS_image ?f_ANSWERS_field ?f_ANSWERS_sharp ?f_ANSWERS_rounds ?lk_ANSWERS ?hh_ANSWERS_show ?hh_ANSWERS_walk ?hh_ANSWERS_table ?hh_ANSWERS_apart ?hh_ANSWERS_image ?hh_ANSWERS_field ?hh_ANSWERS_sharp ?hh_ANSWERS_rounds ?ns_ANSWERS, rfl⟩
      (case m_BenchError => k_is); (case m_NoNumber => k_is); (case m_NoText => k_is); (case m_NoTable => k_is); (case m_NoBox => k_is); (case m_NoRow => k_is); (case m_Unknown => k_is); (case m_NoBench => k_is); (case m_Piece => k_is); (case m_Gap => k_is); (case m_Glass => k_is); (case m_Stop => k_is); (case m_Reader => k_is); (case m_Desk => k_is); (case m_GAP => k_is); (case m_GLASS => k_is); (case m_STOP => k_is); (case m_MOST_PIECES => k_is); (case m_FIGURES => k_is); (case m_MOST_FIGURES => k_is); (case m_PARTED => k_is); (case m_TIMES => k_is); (case m_OPENED => k_is); (case m_CLOSED => k_is); (case m_MOST_TIMES => k_is); (case m_MOST_DEEP => k_is); (case m_LETTERS => k_is); (case m_MOST_LETTERS => k_is); (case m_DONE => k_is); (case m_NONE => k_is); (case o_NoText => k_exc); (case o_Unknown => k_exc); (case x_NoText_NoText => kts_exm); (case x_Unknown_Unknown => kts_exm); (case pg_Gap => k_is); (case hd_Gap => k_is); (case po_Gap => k_is); (case sa_Gap => k_is); (case mk_Gap_init => k_is); (case a_Gap_init => k_is); (case fn_Gap_init => k_is); (case kc_Gap_init => k_is); (case l_Gap_init => k_is); (case c_Gap_init => k_is); (case kp_Gap_init => k_is); (case a_Gap_lets => k_is); (case fn_Gap_lets => k_is); (case kp_Gap_lets => k_is); (case l_Gap_lets => k_is); (case c_Gap_lets => k_is); (case a_Gap_bent => k_is); (case fn_Gap_bent => k_is); (case kp_Gap_bent => k_is); (case l_Gap_bent => k_is); (case c_Gap_bent => k_is); (case n_Gap_length => k_is); (case pg_Glass => k_is); (case hd_Glass => k_is); (case po_Glass => k_is); (case sa_Glass => k_is); (case mk_Glass_init => k_is); (case a_Glass_init => k_is); (case fn_Glass_init => k_is); (case kc_Glass_init => k_is); (case l_Glass_init => k_is); (case c_Glass_init => k_is); (case kp_Glass_init => k_is); (case a_Glass_lets => k_is); (case fn_Glass_lets => k_is); (case kp_Glass_lets => k_is); (case l_Glass_lets => k_is); (case c_Glass_lets => k_is); (case a_Glass_bent => k_is); (case fn_Glass_bent => k_is); (case kp_Glass_bent => k_is); (case l_Glass_bent => k_is); (case c_Glass_bent => k_is); (case n_Glass_strength => k_is); (case pg_Stop => k_is); (case hd_Stop => k_is); (case po_Stop => k_is); (case sa_Stop => k_is); (case mk_Stop_init => k_is); (case a_Stop_init => k_is); (case fn_Stop_init => k_is); (case kc_Stop_init => k_is); (case l_Stop_init => k_is); (case c_Stop_init => k_is); (case kp_Stop_init => k_is); (case a_Stop_lets => k_is); (case fn_Stop_lets => k_is); (case kp_Stop_lets => k_is); (case l_Stop_lets => k_is); (case c_Stop_lets => k_is); (case a_Stop_bent => k_is); (case fn_Stop_bent => k_is); (case kp_Stop_bent => k_is); (case l_Stop_bent => k_is); (case c_Stop_bent => k_is); (case n_Stop_low => k_is); (case n_Stop_high => k_is); (case pg_Reader => k_is); (case hd_Reader => k_is); (case po_Reader => k_is); (case sa_Reader => k_is); (case mk_Reader_init => k_is); (case a_Reader_init => k_is); (case fn_Reader_init => k_is); (case kc_Reader_init => k_is); (case l_Reader_init => k_is); (case c_Reader_init => k_is); (case kp_Reader_init => k_is); (case a_Reader_is_done => k_is); (case fn_Reader_is_done => k_is); (case kp_Reader_is_done => k_is); (case l_Reader_is_done => k_is); (case c_Reader_is_done => k_is); (case a_Reader_take => k_is); (case fn_Reader_take => k_is); (case kp_Reader_take => k_is); (case l_Reader_take => k_is); (case c_Reader_take => k_is); (case a_Reader_take_if => k_is); (case fn_Reader_take_if => k_is); (case kp_Reader_take_if => k_is); (case l_Reader_take_if => k_is); (case c_Reader_take_if => k_is); (case n_Reader_words => k_is); (case n_Reader_place => k_is); (case pg_Desk => k_is); (case hd_Desk => k_is); (case po_Desk => k_is); (case sa_Desk => k_is); (case mk_Desk_init => k_is); (case a_Desk_init => k_is); (case fn_Desk_init => k_is); (case kc_Desk_init => k_is); (case l_Desk_init => k_is); (case c_Desk_init => k_is); (case kp_Desk_init => k_is); (case a_Desk_say => k_is); (case fn_Desk_say => k_is); (case kp_Desk_say => k_is); (case l_Desk_say => k_is); (case c_Desk_say => k_is); (case a_Desk_lay => k_is); (case fn_Desk_lay => k_is); (case kp_Desk_lay => k_is); (case l_Desk_lay => k_is); (case c_Desk_lay => k_is); (case a_Desk_bench_by => k_is); (case fn_Desk_bench_by => k_is); (case kp_Desk_bench_by => k_is); (case l_Desk_bench_by => k_is); (case c_Desk_bench_by => k_is); (case a_Desk_keep => k_is); (case fn_Desk_keep => k_is); (case kp_Desk_keep => k_is); (case l_Desk_keep => k_is); (case c_Desk_keep => k_is); (case n_Desk_benches => k_is); (case m_NOUGHT => k_is); (case lk_NOUGHT => k_is); (case m_ONE => k_is); (case lk_ONE => k_is); (case m_LEAVING => k_is); (case lk_LEAVING => k_is); (case m_ROWS => k_is); (case lk_ROWS => k_is); (case hh_ROWS_join => rfl); (case hh_ROWS_turn => rfl); (case hh_ROWS_show => rfl); (case hh_ROWS_walk => rfl); (case hh_ROWS_table => rfl); (case hh_ROWS_apart => rfl); (case hh_ROWS_image => rfl); (case hh_ROWS_field => rfl); (case hh_ROWS_sharp => rfl); (case hh_ROWS_rounds => rfl); (case ns_ROWS => decide); (case lk_ROWS_join => k_is); (case lk_ROWS_turn => k_is); (case lk_ROWS_show => k_is); (case lk_ROWS_walk => k_is); (case lk_ROWS_table => k_is); (case lk_ROWS_apart => k_is); (case lk_ROWS_image => k_is); (case lk_ROWS_field => k_is); (case lk_ROWS_sharp => k_is); (case lk_ROWS_rounds => k_is); (case m_ANSWERS => k_is); (case f_ANSWERS_show => k_is); (case f_ANSWERS_walk => k_is); (case f_ANSWERS_table => k_is); (case f_ANSWERS_apart => k_is); (case f_ANSWERS_image => k_is); (case f_ANSWERS_field => k_is); (case f_ANSWERS_sharp => k_is); (case f_ANSWERS_rounds => k_is); (case lk_ANSWERS => k_is); (case hh_ANSWERS_show => rfl); (case hh_ANSWERS_walk => rfl); (case hh_ANSWERS_table => rfl); (case hh_ANSWERS_apart => rfl); (case hh_ANSWERS_image => rfl); (case hh_ANSWERS_field => rfl); (case hh_ANSWERS_sharp => rfl); (case hh_ANSWERS_rounds => rfl); (case ns_ANSWERS => decide)
    obtain ⟨ad, X0, hw⟩ := X0
    obtain ⟨fd, FL, bL⟩ := K72.law_fd t_law hmg
    exact ⟨fd, bL, fun base _ _ => L2.FnB.ok (K72.ok_law ⟨X0, z_abs, z_all, z_bool, z_enumerate, z_int, z_isinstance, z_len, z_list, z_range, z_reversed, z_sorted, z_str, z_tuple, t_is_whole, t_common_divisor, t_is_ratio, t_ratio_of, t_sum_of, t_less_by, t_product_of, t_quotient_of, t_is_less, t_is_piece, t_piece_of, t_look_at, t_is_table, t_look_at_table, t_table_of_rays, t_table_of, t_made_by, t_joined, t_less, t_part_short_of_one, t_glass_gap_glass, t_gap_glass_gap, t_taken_apart, t_is_stretch, t_look_at_stretch, t_is_box, t_look_at_box, t_limits_of, t_is_before, t_corners_of, t_edges_of, t_room_at, t_crossing_of, t_cut_by, t_from_the_least, t_field_of, t_show_ratio, t_read_part_figures, t_read_ratio, t_spread_of, t_image_of, t_growth_of, t_in_order, t_lesser_of, t_greater_of, t_slants_by, t_slants_of, t_height_at, t_spots_of, t_blur_of, t_is_name, t_walk_of, t_rounds_of, t_sharp_places, t_words_of, t_read_number_texts, t_read_times, t_read_round, t_read_part_texts, t_read_parts, t_count_of, t_told_out, t_read_bench, t_show_piece, t_show_bench, t_turned_bench, t_shown, t_show_answer, t_walk_answer, t_table_answer, t_apart_answer, t_image_answer, t_field_answer, t_sharp_answer, t_rounds_answer, t_look_at_name, t_read_number_desk, t_read_row, t__law_cell_at, t__law_drawn, t__law_draw, t__law_low, t__law_under, t__law_part, t__law_piece, t__law_plus, t__law_less, t__law_written, t__law_shown, t__law_piece_text, t__law_text, t__law_called, t__law_benches, t__law_is_unknown, t__law_done⟩ hw FL)⟩
#print axioms PySem.Challenge.cw_grindbench_k72_benches_made_of_others_holds
