import PyProof.Rows.All
import Wide.All
import OpenK.AllK
import Wide.FinOn
import Lean
import PyProof.EqAt
import PyProof.EqKinds
import PyProof.TupleCall
import PySem.Challenge.RW_grindbench_k48_whole_stops_shut_in_turn
set_option Elab.async false
set_option linter.all false
set_option maxRecDepth 100000
set_option maxHeartbeats 1000000
namespace L2
open PySem PySem.Spec PyProof.Rows
abbrev Key := Sum Int Str
def keyIs : Key → Value → Bool
  | .inl k, v => Value.isInt k v
  | .inr x, v => Value.isStrOf x v
def keyH (w : World) : Key → Int
  | .inl k => hashInt k
  | .inr x => hashStr w x
theorem keyIs_shape : ∀ {k : Key} {v : Value}, keyIs k v = true → (∃ i t, k = Sum.inl i ∧ v = Value.int i t) ∨ (∃ x t, k = Sum.inr x ∧ v = Value.str x t)
  | .inl i, v, h => by
    obtain ⟨t, e⟩ := Value.isInt_shape (k := i) (v := v) h
    exact .inl ⟨i, t, rfl, e⟩
  | .inr x, v, h => by
    obtain ⟨t, e⟩ := Value.isStrOf_shape (x := x) (v := v) h
    exact .inr ⟨x, t, rfl, e⟩
theorem keyIs_int (i : Int) (t : Tok) : keyIs (.inl i) (.int i t) = true := by simp [keyIs, Value.isInt]
theorem keyIs_str (x : Str) (t : Tok) : keyIs (.inr x) (.str x t) = true := by simp [keyIs, Value.isStrOf]
theorem key_ll (a b : Int) : decide ((Sum.inl a : Key) = Sum.inl b) = (a == b) := by
  by_cases e : a = b
  · subst e; simp
  · have h : ¬ (Sum.inl a : Key) = Sum.inl b := fun q => e (Sum.inl.inj q)
    rw [decide_eq_false h]
    exact (beq_eq_false_iff_ne.mpr e).symm
theorem key_rr (a b : Str) : decide ((Sum.inr a : Key) = Sum.inr b) = decide (a = b) := by
  by_cases e : a = b
  · subst e; simp
  · have h : ¬ (Sum.inr a : Key) = Sum.inr b := fun q => e (Sum.inr.inj q)
    rw [decide_eq_false h, decide_eq_false e]
theorem key_lr (a : Int) (b : Str) : decide ((Sum.inl a : Key) = Sum.inr b) = false := decide_eq_false (fun q => nomatch q)
theorem key_rl (a : Str) (b : Int) : decide ((Sum.inr a : Key) = Sum.inl b) = false := decide_eq_false (fun q => nomatch q)
def mixKind (prog : Program) (w : World) : PySem.KeyKind prog w Key where
  is := keyIs
  hash := keyH w
  inj := fun v a b ha hb => by
    rcases keyIs_shape ha with ⟨i, t, rfl, rfl⟩ | ⟨x, t, rfl, rfl⟩
    · rcases keyIs_shape hb with ⟨j, u, rfl, e⟩ | ⟨y, u, rfl, e⟩
      · injection e with e1 _; rw [e1]
      · exact nomatch e
    · rcases keyIs_shape hb with ⟨j, u, rfl, e⟩ | ⟨y, u, rfl, e⟩
      · exact nomatch e
      · injection e with e1 _; rw [e1]
  byValue := fun k v h => by
    rcases keyIs_shape h with ⟨i, t, rfl, rfl⟩ | ⟨x, t, rfl, rfl⟩ <;> rfl
  pyHash := fun hv h => by
    rcases keyIs_shape hv with ⟨i, t, rfl, rfl⟩ | ⟨x, t, rfl, rfl⟩
    · exact wpAny_pyHash_int h
    · exact wpAny_pyHash_str h
  eqBool := fun hu hv h => by
    rcases keyIs_shape hu with ⟨i, t, rfl, rfl⟩ | ⟨x, t, rfl, rfl⟩
    · rcases keyIs_shape hv with ⟨j, u, rfl, rfl⟩ | ⟨y, u, rfl, rfl⟩
      · rw [key_ll] at h; exact wpAny_eqBool_int h
      · rw [key_lr] at h; exact SeqAt.EqAt.int_str i t y u _ _ _ _ h
    · rcases keyIs_shape hv with ⟨j, u, rfl, rfl⟩ | ⟨y, u, rfl, rfl⟩
      · rw [key_rl] at h; exact SeqAt.EqAt.str_int x t j u _ _ _ _ h
      · rw [key_rr] at h; exact wpAny_eqBool_str h
  «strs» := fun k x t v h => by
    rcases keyIs_shape h with ⟨i, u, rfl, e⟩ | ⟨y, u, rfl, e⟩
    · exact nomatch e
    · injection e with e1 _
      subst e1
      cases v <;> rfl
theorem mixKind_int (prog : Program) (w : World) (i : Int) (t : Tok) : (mixKind prog w).is (.inl i) (.int i t) = true := keyIs_int i t
theorem mixKind_str (prog : Program) (w : World) (x : Str) (t : Tok) : (mixKind prog w).is (.inr x) (.str x t) = true := keyIs_str x t
end L2
namespace L2
open PySem PySem.Spec PyProof.Rows
inductive V where
  | non | bl (b : Bool) | int (i : Int) | str (x : Str) | byt (b : Array UInt8) | flt (b : UInt64) | ref (a : Addr) | ty (n : String)
  deriving DecidableEq
def RelV : V → Value → Prop
  | .non, u => u = Value.none
  | .bl b, u => u = Value.bool b
  | .int i, u => ∃ t, u = Value.int i t
  | .str x, u => ∃ t, u = Value.str x t
  | .byt b, u => ∃ t, u = Value.bytes b t
  | .flt b, u => ∃ t, u = Value.float b t
  | .ref a, u => u = Value.ref a
  | .ty n, u => u = Value.type n
abbrev Vals : List V → List Value → Prop := Paired RelV
theorem Vals.length {xs : List V} {us : List Value} (r : Vals xs us) : xs.length = us.length := Paired.length r
theorem Vals.get : ∀ {xs : List V} {us : List Value} {i : Nat} {x : V}, Vals xs us → xs[i]? = some x → ∃ u, us[i]? = some u ∧ RelV x u
  | _, _, _, _, .nil, e => by simp at e
  | _, _, 0, _, .cons r _, e => by simp at e; subst e; exact ⟨_, rfl, r⟩
  | _, _, i + 1, x, .cons _ t, e => by
    obtain ⟨u, h1, h2⟩ := Vals.get (i := i) (x := x) t (by simpa using e)
    exact ⟨u, by simpa using h1, h2⟩
theorem Vals.append : ∀ {xs ys : List V} {us ws : List Value}, Vals xs us → Vals ys ws → Vals (xs ++ ys) (us ++ ws)
  | _, _, _, _, .nil, s => s
  | _, _, _, _, .cons r t, s => .cons r (Vals.append t s)
theorem Vals.take : ∀ {xs : List V} {us : List Value} (n : Nat), Vals xs us → Vals (xs.take n) (us.take n)
  | _, _, 0, _ => .nil
  | _, _, _ + 1, .nil => .nil
  | _, _, n + 1, .cons r t => .cons r (Vals.take n t)
theorem Vals.drop : ∀ {xs : List V} {us : List Value} (n : Nat), Vals xs us → Vals (xs.drop n) (us.drop n)
  | _, _, 0, r => r
  | _, _, _ + 1, .nil => .nil
  | _, _, n + 1, .cons _ t => Vals.drop n t
def RelO : Option V → Option Value → Prop
  | some v, some u => RelV v u
  | none, none => True
  | _, _ => False
def KV {κ : Type} : List (κ × V) → List (κ × Value) → Prop := Paired fun (p : κ × V) (q : κ × Value) => p.1 = q.1 ∧ RelV p.2 q.2
def kV : Key → V
  | .inl i => .int i
  | .inr x => .str x
inductive HO where
  /-- a list -/
  | lst (xs : List V)
  /-- a tuple (never changes) -/
  | tup (xs : List V)
  /-- a dict whose keys are ints and texts; one whose keys are tuples of ints and texts (the empty one is both) -/
  | dK (kvs : List (Key × V)) | dT (kvs : List (List Key × V))
  /-- a set of ints: its members, its size -/
  | set (S : Int → Bool) (n : Nat)
  /-- an instance of the class at C, its dict at dx, its attributes -/
  | ins (C dx : Addr) (fs : List (Str × V))
  /-- the dict of the instance at x -/
  | own (x : Addr)
  /-- the dict of an exception -/
  | xd (fs : List (Str × V))
  /-- a bound method, f of x -/
  | met (f x : Addr)
  /-- a range object lo, lo + 1, .. below hi -/
  | rng (lo hi : Int)
  /-- a thing that is known to the object (the script; a dict while a loop walks it): read, never written while it is so -/
  | frz (o : Obj) (u : HO)
  /-- a code object's table -/
  | tbl (ps : Array Value)
  /-- any other thing, by what is true of its one object (a def of one's own: SetO a S n := HO.ext fun h => ..) -/
  | ext (φ : Heap → Prop)
abbrev Hp := Addr → Option HO
def upd (H : Hp) (a : Addr) (o : HO) : Hp := fun b => if b = a then some o else H b
theorem upd_same {H : Hp} {a : Addr} {o : HO} : upd H a o a = some o := by unfold upd; rw [if_pos rfl]
theorem upd_ne {H : Hp} {a b : Addr} {o : HO} (h : b ≠ a) : upd H a o b = H b := by unfold upd; rw [if_neg h]
theorem upd_upd {H : Hp} {a : Addr} {o u : HO} : upd (upd H a o) a u = upd H a u := by
  funext b; unfold upd; split <;> rfl
theorem ne_of {H : Hp} {a b : Addr} {o u : HO} (h : H a = some o) (h' : H b = some u) (d : o ≠ u) : a ≠ b := by
  intro e; subst e; rw [h] at h'; exact d (Option.some.inj h')
theorem ne_of_none {H : Hp} {a b : Addr} {o : HO} (h : H a = some o) (h' : H b = none) : a ≠ b := by
  intro e; subst e; rw [h] at h'; cases h'
section
variable (P : Program) (w : World)
def ObjOk (H : Hp) (h : Heap) (a : Addr) : HO → Prop
  | .lst xs => xs.length ≤ sizeLine ∧ ∃ (its : List Value) (n : Nat), Vals xs its ∧ h.get? a = some { cls := .type "list", data := .seq its.toArray n }
  | .tup xs => xs.length ≤ sizeLine ∧ ∃ its : List Value, Vals xs its ∧ IsTup h a its.toArray
  | .dK kvs => kvs.length ≤ sizeLine ∧ (a == sysModules) = false ∧ ∃ vs, KV kvs vs ∧ h.DictOf (mixKind P w) a vs
  | .dT kvs => kvs.length ≤ sizeLine ∧ (a == sysModules) = false ∧ ∃ xs : List (List Key × Addr × Value),
      Paired (fun (p : List Key × V) (q : List Key × Addr × Value) => p.1 = q.1 ∧ H q.2.1 = some (.tup (p.1.map kV)) ∧ RelV p.2 q.2.2) kvs xs ∧
      ∃ o es ep, h.get? a = some o ∧ o.ExactDict ∧ o.data = .dict es ep ∧ es.toList = xs.map (entryOfKey (tupleKind (mixKind P w))) ∧ (xs.map (·.1)).Nodup
  | .set S n => h.SetOf (intKind P w) a S n
  | .ins C dx fs => H dx = some (.own a) ∧ fs.length ≤ 1000 ∧ dx ≠ a ∧ h.get? a = some (PySem.W.instObj C dx) ∧
      ∃ mA, h.Ns1 dx mA ∧ (∀ f, RelO (fs.lookup f) (mA f)) ∧ PySem.Within mA (fs.map (·.1))
  | .own _ => ∃ o, h.get? a = some o
  | .xd fs => ∃ mA, h.Ns1 a mA ∧ ∀ f, RelO (fs.lookup f) (mA f)
  | .rng lo hi => ∃ t u v, h.get? a = some { cls := .type "range", data := .fields #[.int lo t, .int hi u, .int 1 v] }
  | .frz o u => h.get? a = some o ∧ ObjOk H h a u
  | .tbl ps => h.get? a = some { cls := .none, data := .fields ps }
  | .met f x => h.get? a = some (PySem.W.methodObj (.ref f) (.ref x))
  | .ext φ => φ h ∧ (∃ o, h.get? a = some o) ∧ ∀ h1 h2 : Heap, φ h1 → (∀ o, h1.get? a = some o → h2.get? a = some o) → φ h2
def HOk (H : Hp) (h : Heap) : Prop := ∀ a o, H a = some o → ObjOk P w H h a o
end
section
variable {P : Program} {w : World} {H H' : Hp} {h h' : Heap} {a : Addr} {o : HO}
theorem ObjOk.lt (x : ObjOk P w H h a o) : a < h.objs.size := by
  cases o with
  | lst xs => obtain ⟨_, _, _, _, e⟩ := x; exact Heap.lt_size e
  | tup xs => obtain ⟨_, _, _, p⟩ := x; exact p.lt
  | dK kvs => obtain ⟨_, _, _, _, o, _, _, e, _⟩ := x; exact Heap.lt_size e
  | dT kvs => obtain ⟨_, _, _, _, o, _, _, e, _⟩ := x; exact Heap.lt_size e
  | set S n => obtain ⟨o, _, _, _, e, _⟩ := x; exact Heap.lt_size e
  | ins C dx fs => obtain ⟨_, _, _, e, _⟩ := x; exact Heap.lt_size e
  | own y => obtain ⟨_, e⟩ := x; exact Heap.lt_size e
  | xd fs => obtain ⟨_, ⟨_, _, _, e, _⟩, _⟩ := x; exact Heap.lt_size e
  | rng lo hi => obtain ⟨_, _, _, e⟩ := x; exact Heap.lt_size e
  | frz ob u => obtain ⟨e, _⟩ := x; exact Heap.lt_size e
  | tbl ps => exact Heap.lt_size (show h.get? a = some _ from x)
  | met f y => exact Heap.lt_size (show h.get? a = some _ from x)
  | ext φ => obtain ⟨_, ⟨_, e⟩, _⟩ := x; exact Heap.lt_size e
theorem Paired.mapP {α β : Type} {F G : α → β → Prop} : ∀ {l₁ : List α} {l₂ : List β}, Paired F l₁ l₂ → (∀ a b, F a b → G a b) → Paired G l₁ l₂
  | _, _, .nil, _ => .nil
  | _, _, .cons r t, f => .cons (f _ _ r) (Paired.mapP t f)
theorem ObjOk.stay (x : ObjOk P w H h a o) (k : ∀ b u, (b = a ∨ H b = some (.own a)) → h.get? b = some u → h'.get? b = some u)
    (ho : ∀ b, H b = some (.own a) → H' b = some (.own a)) (ht : ∀ b xs, H b = some (.tup xs) → H' b = some (.tup xs)) : ObjOk P w H' h' a o := by
  induction o with
  | lst xs => obtain ⟨z, its, n, r, e⟩ := x; exact ⟨z, its, n, r, k _ _ (.inl rfl) e⟩
  | tup xs => obtain ⟨z, its, r, ob, e, c⟩ := x; exact ⟨z, its, r, ob, k _ _ (.inl rfl) e, c⟩
  | dK kvs => obtain ⟨z, y, vs, r, ob, es, ep, e, c⟩ := x; exact ⟨z, y, vs, r, ob, es, ep, k _ _ (.inl rfl) e, c⟩
  | dT kvs =>
    obtain ⟨z, y, xs, r, ob, es, ep, e, c⟩ := x
    exact ⟨z, y, xs, Paired.mapP r fun p q z => ⟨z.1, ht _ _ z.2.1, z.2.2⟩, ob, es, ep, k _ _ (.inl rfl) e, c⟩
  | set S n => obtain ⟨ob, es, ep, t, e, c⟩ := x; exact ⟨ob, es, ep, t, k _ _ (.inl rfl) e, c⟩
  | ins C dx fs =>
    obtain ⟨d, z, ne, e, mA, ⟨od, es, ep, e2, c⟩, r⟩ := x
    exact ⟨ho _ d, z, ne, k _ _ (.inl rfl) e, mA, ⟨od, es, ep, k _ _ (.inr d) e2, c⟩, r⟩
  | own y => obtain ⟨ob, e⟩ := x; exact ⟨ob, k _ _ (.inl rfl) e⟩
  | xd fs => obtain ⟨mA, ⟨od, es, ep, e, c⟩, r⟩ := x; exact ⟨mA, ⟨od, es, ep, k _ _ (.inl rfl) e, c⟩, r⟩
  | rng lo hi => obtain ⟨t, u, v, e⟩ := x; exact ⟨t, u, v, k _ _ (.inl rfl) e⟩
  | frz ob u ih => obtain ⟨e, q⟩ := x; exact ⟨k _ _ (.inl rfl) e, ih q⟩
  | tbl ps =>
    have e : h.get? a = some { cls := .none, data := .fields ps } := x
    show h'.get? a = some { cls := .none, data := .fields ps }
    exact k a _ (.inl rfl) e
  | met f y =>
    have e : h.get? a = some (PySem.W.methodObj (.ref f) (.ref y)) := x
    show h'.get? a = some (PySem.W.methodObj (.ref f) (.ref y))
    exact k a _ (.inl rfl) e
  | ext φ => obtain ⟨p, ⟨o, e⟩, st⟩ := x; exact ⟨st _ _ p fun o q => k _ _ (.inl rfl) q, ⟨o, k _ _ (.inl rfl) e⟩, st⟩
theorem HOk.lt (x : HOk P w H h) (e : H a = some o) : a < h.objs.size := (x a o e).lt
theorem HOk.fresh (x : HOk P w H h) (e : h.objs.size ≤ a) : H a = none := by
  cases q : H a with
  | none => rfl
  | some u => exact absurd (Nat.lt_of_lt_of_le (x.lt q) e) (Nat.lt_irrefl _)
theorem HOk.kept (x : HOk P w H h) (k : ∀ b u, h.get? b = some u → h'.get? b = some u) : HOk P w H h' := fun a o e =>
  (x a o e).stay (fun b u _ q => k b u q) (fun _ q => q) fun _ _ q => q
theorem HOk.laid (x : HOk P w H h) (k : ∀ b u, h.get? b = some u → h'.get? b = some u) (hp : h.objs.size ≤ a) (new : ObjOk P w (upd H a o) h' a o) : HOk P w (upd H a o) h' := fun b u e => by
  have hn := x.fresh hp
  by_cases hb : b = a
  · subst hb; rw [upd_same] at e; cases e; exact new
  · rw [upd_ne hb] at e
    exact (x b u e).stay (fun c v _ q => k c v q) (fun c q => by rw [upd_ne (ne_of_none q hn)]; exact q) fun c xs q => by rw [upd_ne (ne_of_none q hn)]; exact q
end
def Rd (H : Hp) (a : Addr) (u : HO) : Prop := H a = some u ∨ ∃ o, H a = some (.frz o u)
theorem Rd.ok {P : Program} {w : World} {H : Hp} {h : Heap} {a : Addr} {u : HO} (r : Rd H a u) (x : HOk P w H h) : ObjOk P w H h a u := by
  rcases r with r | ⟨o, r⟩
  · exact x a u r
  · obtain ⟨_, q⟩ := x a _ r
    exact q
def Mut : Option HO → Prop
  | some (.lst _) => True
  | some (.dK _) => True
  | some (.dT _) => True
  | some (.set _ _) => True
  | some (.ins _ _ _) => True
  | some (.ext _) => True
  | _ => False
section
variable {P : Program} {w : World} {H : Hp} {h h' : Heap} {x e : Addr} {o' : HO}
theorem HOk.write (ok : HOk P w H h) (mu : Mut (H x)) (he : e = x ∨ H e = some (.own x)) (k : ∀ b u, b ≠ e → h.get? b = some u → h'.get? b = some u) (heo : ∃ u, h'.get? e = some u)
    (new : ObjOk P w (upd H x o') h' x o') : HOk P w (upd H x o') h' := fun b u q => by
  have nown : ∀ c y, H c = some (.own y) → c ≠ x := fun c y r z => by subst z; rw [r] at mu; exact mu
  have ntup : ∀ c xs, H c = some (.tup xs) → c ≠ x := fun c xs r z => by subst z; rw [r] at mu; exact mu
  by_cases hb : b = x
  · subst hb; rw [upd_same] at q; cases q; exact new
  · rw [upd_ne hb] at q
    by_cases hbe : b = e
    · have q' : H b = some (.own x) := by
        rcases he with z | z
        · exact absurd (hbe.trans z) hb
        · rw [hbe]; exact z
      rw [q] at q'; cases q'
      obtain ⟨v, hv⟩ := heo
      exact ⟨v, by rw [hbe]; exact hv⟩
    · refine (ok b u q).stay (fun c v hc r => k c v ?_ r) (fun c r => by rw [upd_ne (nown c b r)]; exact r) fun c xs r => by rw [upd_ne (ntup c xs r)]; exact r
      rcases hc with rfl | hc
      · exact hbe
      · rintro rfl
        rcases he with z | z
        · exact nown c b hc z
        · rw [hc] at z; cases z; exact hb rfl
end
structure Un (fs ex : List Addr) (H H' : Hp) (h h' : Heap) : Prop where
  keep : ∀ b o, h.get? b = some o → H b = none → b ∉ fs → b ∉ ex → h'.get? b = some o
  slot : ∀ b o, h.get? b = some o → H b = none → b ∈ fs → b ∉ ex → ∃ sl, h'.get? b = some { o with slots := sl }
  free : ∀ b o, h.get? b = some o → H b = none → b ∉ ex → H' b = none
  there : ∀ b o, h.get? b = some o → b ∉ ex → ∃ o', h'.get? b = some o'
  tups : ∀ b xs, H b = some (.tup xs) → H' b = some (.tup xs)
  frzs : ∀ b o u, H b = some (.frz o u) → H' b = some (.frz o u)
  tbls : ∀ b ps, H b = some (.tbl ps) → ∃ more, H' b = some (.tbl (ps ++ more))
section
variable {fs fs' ex ex' : List Addr} {H H1 H2 : Hp} {h h1 h2 h' : Heap} {a x e : Addr} {o : HO}
theorem Un.any (u : Un fs ex H H1 h h1) {b : Addr} {ob : Obj} (q : h.get? b = some ob) (n : H b = none) (hx : b ∉ ex) : ∃ sl, h1.get? b = some { ob with slots := sl } := by
  by_cases hb : b ∈ fs
  · exact u.slot b ob q n hb hx
  · exact ⟨ob.slots, u.keep b ob q n hb hx⟩
theorem Un.kept (k : ∀ b u, h.get? b = some u → h'.get? b = some u) : Un fs ex H H h h' :=
  ⟨fun b ob q _ _ _ => k b ob q, fun b ob q _ _ _ => ⟨ob.slots, k b ob q⟩, fun _ _ _ n _ => n, fun b ob q _ => ⟨ob, k b ob q⟩, fun _ _ q => q, fun _ _ _ q => q, fun _ ps q => ⟨#[], by rw [q]; simp⟩⟩
theorem Un.refl : Un fs ex H H h h := Un.kept fun _ _ q => q
theorem Un.laid (k : ∀ b u, h.get? b = some u → h'.get? b = some u) (hp : h.objs.size ≤ a) (hn : H a = none) : Un fs ex H (upd H a o) h h' where
  keep := fun b u q _ _ _ => k b u q
  slot := fun b u q _ _ _ => ⟨u.slots, k b u q⟩
  free := fun b u q n _ => by rw [upd_ne (Nat.ne_of_lt (Nat.lt_of_lt_of_le (Heap.lt_size q) hp))]; exact n
  there := fun b u q _ => ⟨u, k b u q⟩
  tups := fun b xs q => by rw [upd_ne (ne_of_none q hn)]; exact q
  frzs := fun b u xs q => by rw [upd_ne (ne_of_none q hn)]; exact q
  tbls := fun b ps q => ⟨#[], by rw [upd_ne (ne_of_none q hn), q]; simp⟩
theorem Un.write (mu : Mut (H x)) (he : e = x ∨ H e = some (.own x)) (k : ∀ b u, b ≠ e → h.get? b = some u → h'.get? b = some u) (heo : ∃ u, h'.get? e = some u) : Un fs ex H (upd H x o) h h' := by
  have hx : ∀ b, H b = none → b ≠ x := fun b n z => by subst z; rw [n] at mu; exact mu
  have hb : ∀ b, H b = none → b ≠ e := fun b n z => by
    subst z
    rcases he with r | r
    · exact hx b n r
    · rw [n] at r; cases r
  have hm : ∀ b u, H b = some u → ¬ Mut (some u) → b ≠ x := fun b u q nm z => by subst z; rw [q] at mu; exact nm mu
  refine ⟨fun b u q n _ _ => k b u (hb b n) q, fun b u q n _ _ => ⟨u.slots, k b u (hb b n) q⟩, fun b u q n _ => by rw [upd_ne (hx b n)]; exact n, fun b u q _ => ?_,
    fun b xs q => by rw [upd_ne (hm b _ q fun z => z)]; exact q, fun b u xs q => by rw [upd_ne (hm b _ q fun z => z)]; exact q, fun b ps q => ⟨#[], by rw [upd_ne (hm b _ q fun z => z), q]; simp⟩⟩
  by_cases hbe : b = e
  · subst hbe; exact heo
  · exact ⟨u, k b u hbe q⟩
end
def trk (h : Heap) (H : Hp) : List Addr := (List.range h.objs.size).filter fun a => (H a).isSome
def hidT (h : Heap) (H : Hp) : Heap := PySem.W.hideAll h (trk h H)
theorem hidT_size (h : Heap) (H : Hp) : (hidT h H).objs.size = h.objs.size := PySem.W.hideAll_size _ _
theorem hidT_get {h : Heap} {H : Hp} {b : Addr} {o : Obj} (e : h.get? b = some o) (n : H b = none) : (hidT h H).get? b = some o :=
  PySem.W.hideAll_get _ e fun hm => by
    have q : (H b).isSome = true := (List.mem_filter.mp hm).2
    rw [n] at q; simp at q
theorem of_hidT {h : Heap} {H : Hp} {b : Addr} {o : Obj} (e : (hidT h H).get? b = some o) : h.get? b = some o ∧ H b = none := by
  have e' : h.get? b = some o := PySem.W.of_hideAll (trk h H) e
  refine ⟨e', ?_⟩
  cases q : H b with
  | none => rfl
  | some x =>
    have hm : b ∈ trk h H := List.mem_filter.mpr ⟨List.mem_range.mpr (Heap.lt_size e'), by simp [q]⟩
    have z : (hidT h H).get? b = none := PySem.W.hideAll_none (trk h H) hm
    rw [z] at e; cases e
end L2
namespace L2
open PySem PySem.Spec PyProof.Rows
structure Mod (K : PySem.W.Frag) (mg : Str → Option Value) (base : Heap) : Prop where
  kin : K.In base
  glob : base.Ns mainGlobals mg
  blt : ∃ mb, base.Ns builtinsNs mb ∧ ∀ x : Str, x ≠ "__name__" → mb x = bootBuiltins x
  nolimit : base.NoLimit
structure Cx where
  prog : Program
  w : World
  K : PySem.W.Frag
  mg : Str → Option Value
  base : Heap
  A : Around
  N : List Str
  s₀ : Shared
  H₀ : Hp
  env : Env
  outer : List Env
  stack : List Env
  ex : List Addr
  fn : Str → Bool
  calm : Bool
  pn : List (Addr × Obj)
  xe : Value → Shared → Prop
def frs (l : List Env) : List Addr := l.filterMap (·.frame)
abbrev Cx.fs (X : Cx) : List Addr := frs X.outer
def Vis (sc : Scope) (x : Str) : Prop := sc.names.lookup x = some .local ∨ sc.names.lookup x = some .cell ∨ sc.names.lookup x = some .free
def Loc (sc : Scope) (x : Str) : Prop := sc.names.lookup x = some .local ∨ sc.names.lookup x = some .cell
def Look (env : Env) (h : Heap) (m : Str → Option Value) (x : Str) (u : Value) : Prop :=
  (env.kindOf x = some .local ∧ m x = some u) ∨ ((env.kindOf x = some .cell ∨ env.kindOf x = some .free) ∧ ∃ c, env.cells.lookup x = some c ∧ h.IsCell c (some u))
structure Cx.Ok (X : Cx) : Prop where
  mod : Mod X.K X.mg X.base
  kind : X.env.scope.kind = .function
  glob : X.env.globals = mainGlobals
  blt : X.env.builtins = builtinsNs
  above : X.s₀.heap.objs.size ≤ X.env.locals
  inj : ∀ x y c, X.env.cells.lookup x = some c → X.env.cells.lookup y = some c → x = y
  has : ∀ x, (X.env.kindOf x = some .cell ∨ X.env.kindOf x = some .free) → ∃ c, X.env.cells.lookup x = some c
  cab : ∀ x c, X.fn x = true → X.env.cells.lookup x = some c → X.s₀.heap.objs.size ≤ c
  hd : X.calm = true → X.A.handled = none
  frames : X.A.frames = some X.stack
  stk : X.stack = X.outer ∨ (X.stack = X.env :: X.outer ∧ X.env.frame = some X.env.locals)
  exf : ∀ b ∈ X.ex, b ≠ X.env.locals ∧ ∀ x c, X.env.cells.lookup x = some c → c ≠ b
  bs : ∀ b o, X.base.get? b = some o → X.s₀.heap.get? b = some o ∧ X.H₀ b = none
  bsz : X.base.objs.size ≤ X.s₀.heap.objs.size
  noex : ∀ b o, X.base.get? b = some o → b ∉ X.ex
  exfs : ∀ b ∈ X.ex, b ∉ X.fs
  funs : X.s₀.heap.FunFrames X.base X.outer
  frf : ∀ b ∈ X.fs, X.H₀ b = none
structure Inv (X : Cx) (pins : List (Addr × Obj)) (σ : List (Option V)) (H : Hp) (s : Shared) : Prop where
  ok : X.Ok
  os : s.os = X.s₀.os
  bare : AllBare s.gens
  base : Un X.fs X.ex X.H₀ H X.s₀.heap s.heap
  loc : ∃ m, s.heap.Ns X.env.locals m ∧ ∀ (i : Nat) (x : Str) (v : V), X.N[i]? = some x → σ[i]? = some (some v) → Vis X.env.scope x → ∃ u, RelV v u ∧ Look X.env s.heap m x u
  cell : ∀ x c, X.env.cells.lookup x = some c → ∃ v, s.heap.IsCell c v
  free : H X.env.locals = none
  freeC : ∀ x c, X.env.cells.lookup x = some c → H c = none
  pin : ∀ p ∈ X.pn ++ pins, s.heap.get? p.1 = some p.2 ∧ H p.1 = none ∧ p.1 ≠ X.env.locals ∧ p.1 ∉ X.fs ∧ ∀ v, p.2.data ≠ .cell v
  hok : HOk X.prog X.w H s.heap
  len : σ.length = X.N.length
section
variable {X : Cx} {pins : List (Addr × Obj)} {σ : List (Option V)} {H H' : Hp} {s : Shared} {h' : Heap}
theorem Cx.Ok.nofr (ok : X.Ok) {b : Addr} {o : Obj} (e : X.base.get? b = some o) : b ∉ X.fs := fun hb => by
  have := (ok.funs.mem hb).1
  rw [e] at this; cases this
theorem Inv.bs (I : Inv X pins σ H s) : ∀ b o, X.base.get? b = some o → s.heap.get? b = some o ∧ H b = none := fun b o e =>
  ⟨I.base.keep b o (I.ok.bs b o e).1 (I.ok.bs b o e).2 (I.ok.nofr e) (I.ok.noex b o e), I.base.free b o (I.ok.bs b o e).1 (I.ok.bs b o e).2 (I.ok.noex b o e)⟩
theorem Inv.bk (I : Inv X pins σ H s) : ∀ b o, X.base.get? b = some o → s.heap.get? b = some o := fun b o e => (I.bs b o e).1
theorem Inv.mod (I : Inv X pins σ H s) : Mod X.K X.mg X.base := I.ok.mod
theorem Inv.kIn (I : Inv X pins σ H s) : X.K.In s.heap := I.ok.mod.kin.keeps I.bk
theorem Inv.lt (I : Inv X pins σ H s) : X.env.locals < s.heap.objs.size := let ⟨_, hn, _⟩ := I.loc; hn.lt
theorem Inv.sz (I : Inv X pins σ H s) : X.s₀.heap.objs.size ≤ s.heap.objs.size := Nat.le_trans I.ok.above (Nat.le_of_lt I.lt)
theorem Inv.nofs (I : Inv X pins σ H s) {a : Addr} (h : s.heap.objs.size ≤ a) : a ∉ X.fs := fun hb => by
  obtain ⟨_, o, ho, _⟩ := I.ok.funs.mem hb
  exact absurd (Nat.lt_of_lt_of_le (Heap.lt_size ho) (Nat.le_trans I.sz h)) (Nat.lt_irrefl _)
theorem Inv.cne (I : Inv X pins σ H s) : ∀ x c, X.env.cells.lookup x = some c → c ≠ X.env.locals := fun x c e z => by
  obtain ⟨v, o, ho, hd⟩ := I.cell x c e
  obtain ⟨m, ⟨o', es, ep, ho', hd', _⟩, _⟩ := I.loc
  rw [z, ho'] at ho; cases ho; rw [hd'] at hd; cases hd
theorem Inv.funs (I : Inv X pins σ H s) : s.heap.FunFrames X.base X.outer := by
  have all : ∀ (l : List Env), (∀ b ∈ frs l, b ∈ X.fs) → X.s₀.heap.FunFrames X.base l → s.heap.FunFrames X.base l := by
    intro l
    induction l with
    | nil => intro _ _; trivial
    | cons env r ih =>
      intro hs hl
      obtain ⟨hk, ⟨L, o, hf, hn, ho, hd⟩, hr⟩ := hl
      have hL : L ∈ X.fs := hs L (by unfold frs; rw [List.filterMap_cons, hf]; exact List.mem_cons_self)
      obtain ⟨sl, e⟩ := I.base.slot L o ho (I.ok.frf L hL) hL fun z => I.ok.exfs L z hL
      exact ⟨hk, ⟨L, _, hf, hn, e, hd⟩, ih (fun b hb => hs b (by unfold frs; rw [List.filterMap_cons, hf]; exact List.mem_cons_of_mem _ hb)) hr⟩
  exact all X.outer (fun _ hb => hb) I.ok.funs
theorem Inv.stack (I : Inv X pins σ H s) : s.heap.FunFrames X.base X.stack := by
  rcases I.ok.stk with e | ⟨e, hf⟩
  · rw [e]; exact I.funs
  · rw [e]
    obtain ⟨m, hn, _⟩ := I.loc
    refine .cons (by rw [I.ok.kind]; decide) hf hn ?_ I.funs
    exact Heap.get?_none_of_le (Nat.le_trans I.ok.bsz I.ok.above)
theorem Inv.stkSub (I : Inv X pins σ H s) : ∀ b ∈ frs X.stack, b ∈ X.env.locals :: X.fs := fun b hb => by
  rcases I.ok.stk with e | ⟨e, hf⟩
  · rw [e] at hb; exact List.mem_cons_of_mem _ hb
  · rw [e] at hb
    unfold frs at hb
    rw [List.filterMap_cons, hf] at hb
    exact hb
theorem Inv.stkFree (I : Inv X pins σ H s) : ∀ b ∈ frs X.stack, H b = none := fun b hb => by
  rcases List.mem_cons.mp (I.stkSub b hb) with e | hb
  · rw [e]; exact I.free
  · obtain ⟨_, o, ho, _⟩ := I.ok.funs.mem hb
    exact I.base.free b o ho (I.ok.frf b hb) fun z => I.ok.exfs b z hb
theorem Inv.step {g' : Array GenState} {t' : Nat} {d' : Drawn} {ch : List Addr} (I : Inv X pins σ H s)
    (hch : ∀ b ∈ ch, (b ∈ X.ex ∨ X.s₀.heap.objs.size ≤ b) ∧ b ≠ X.env.locals ∧ (∀ x c, X.env.cells.lookup x = some c → c ≠ b) ∧ ∀ p ∈ X.pn ++ pins, p.1 ≠ b)
    (keep : ∀ b o, b ≠ X.env.locals → b ∉ X.fs → b ∉ ch → s.heap.get? b = some o → H b = none → h'.get? b = some o)
    (slot : ∀ b o, b ≠ X.env.locals → b ∈ X.fs → b ∉ ch → s.heap.get? b = some o → H b = none → ∃ sl, h'.get? b = some { o with slots := sl }) (free : ∀ b o, b ∉ ch → s.heap.get? b = some o → H b = none → H' b = none)
    (there : ∀ b o, b ∉ ch → s.heap.get? b = some o → ∃ o', h'.get? b = some o')
    (tups : ∀ b xs, H b = some (.tup xs) → H' b = some (.tup xs)) (frzs : ∀ b o u, H b = some (.frz o u) → H' b = some (.frz o u)) (tbls : ∀ b ps, H b = some (.tbl ps) → ∃ more, H' b = some (.tbl (ps ++ more)))
    (ns : ∀ m, s.heap.Ns X.env.locals m → h'.Ns X.env.locals m) (hok : HOk X.prog X.w H' h') (hg : AllBare g') :
    Inv X pins σ H' { s with heap := h', gens := g', drawn := d', toks := t' } := by
  have neL : ∀ b o, X.s₀.heap.get? b = some o → b ≠ X.env.locals := fun b o e => Nat.ne_of_lt (Nat.lt_of_lt_of_le (Heap.lt_size e) I.ok.above)
  have neC : ∀ b o, X.s₀.heap.get? b = some o → b ∉ X.ex → b ∉ ch := fun b o e hx hb => by
    rcases (hch b hb).1 with z | z
    · exact hx z
    · exact absurd (Nat.lt_of_lt_of_le (Heap.lt_size e) z) (Nat.lt_irrefl _)
  have cellK : ∀ x c, X.env.cells.lookup x = some c → ∀ v, s.heap.IsCell c v → h'.IsCell c v := fun x c e v ⟨o, ho, hd⟩ => by
    have nch : c ∉ ch := fun z => (hch c z).2.2.1 x c e rfl
    by_cases hc : c ∈ X.fs
    · obtain ⟨sl, q⟩ := slot c o (I.cne x c e) hc nch ho (I.freeC x c e)
      exact ⟨_, q, hd⟩
    · exact ⟨o, keep c o (I.cne x c e) hc nch ho (I.freeC x c e), hd⟩
  refine ⟨I.ok, I.os, hg, ⟨fun b o e n hb hx => ?_, fun b o e n hb hx => ?_, fun b o e n hx => ?_, fun b o e hx => ?_, fun b xs e => tups b xs (I.base.tups b xs e), fun b o xs e => frzs b o xs (I.base.frzs b o xs e), fun b ps e => ?_⟩, ?_, fun x c e => ?_, ?_, fun x c e => ?_, fun p hp => ?_, hok, I.len⟩
  · exact keep b o (neL b o e) hb (neC b o e hx) (I.base.keep b o e n hb hx) (I.base.free b o e n hx)
  · obtain ⟨sl, e1⟩ := I.base.slot b o e n hb hx
    obtain ⟨sl', e2⟩ := slot b _ (neL b o e) hb (neC b o e hx) e1 (I.base.free b o e n hx)
    exact ⟨sl', e2⟩
  · obtain ⟨o', e1⟩ := I.base.there b o e hx
    exact free b o' (neC b o e hx) e1 (I.base.free b o e n hx)
  · obtain ⟨o', e1⟩ := I.base.there b o e hx
    exact there b o' (neC b o e hx) e1
  · obtain ⟨m1, e1⟩ := I.base.tbls b ps e
    obtain ⟨m2, e2⟩ := tbls b _ e1
    exact ⟨m1 ++ m2, by rw [e2, Array.append_assoc]⟩
  · obtain ⟨m, hn, hl⟩ := I.loc
    refine ⟨m, ns m hn, fun i x v e1 e2 e3 => ?_⟩
    obtain ⟨u, r, l⟩ := hl i x v e1 e2 e3
    refine ⟨u, r, ?_⟩
    rcases l with l | ⟨k, c, e, z⟩
    · exact .inl l
    · exact .inr ⟨k, c, e, cellK x c e _ z⟩
  · obtain ⟨v, z⟩ := I.cell x c e
    exact ⟨v, cellK x c e v z⟩
  · obtain ⟨m, ⟨o, _, _, ho, _⟩, _⟩ := I.loc
    exact free _ o (fun z => (hch _ z).2.1 rfl) ho I.free
  · obtain ⟨v, o, ho, hd⟩ := I.cell x c e
    exact free c o (fun z => (hch c z).2.2.1 x c e rfl) ho (I.freeC x c e)
  · obtain ⟨e, n, ne, nf, d⟩ := I.pin p hp
    have nch : p.1 ∉ ch := fun z => (hch p.1 z).2.2.2 p hp rfl
    exact ⟨keep p.1 p.2 ne nf nch e n, free p.1 p.2 nch e n, ne, nf, d⟩
theorem Inv.un {t' : Nat} (I : Inv X pins σ H s) (u : Un X.fs [] H H' s.heap h') (hok : HOk X.prog X.w H' h') : Inv X pins σ H' { s with heap := h', toks := t' } := by
  obtain ⟨m, ⟨o, es, ep, ho, r⟩, _⟩ := id I.loc
  obtain ⟨sl, hL⟩ := u.any ho I.free (by simp)
  exact I.step (g' := s.gens) (d' := s.drawn) (ch := []) (fun _ z => nomatch z) (fun b o _ hb _ e n => u.keep b o e n hb (by simp)) (fun b o _ hb _ e n => u.slot b o e n hb (by simp)) (fun b o _ e n => u.free b o e n (by simp)) (fun b o _ e => u.there b o e (by simp)) u.tups u.frzs u.tbls (fun m' hm => by
    obtain ⟨o', es', ep', ho', r'⟩ := hm
    rw [ho] at ho'; cases ho'
    exact ⟨_, es', ep', hL, r'⟩) hok I.bare
theorem Inv.call {g' : Array GenState} {t' : Nat} {d' : Drawn} {ch : List Addr} (I : Inv X pins σ H s) (u : Un (frs X.stack) ch H H' s.heap h') (hok : HOk X.prog X.w H' h') (hg : AllBare g')
    (hch : ∀ b ∈ ch, (b ∈ X.ex ∨ X.s₀.heap.objs.size ≤ b) ∧ b ≠ X.env.locals ∧ (∀ x c, X.env.cells.lookup x = some c → c ≠ b) ∧ ∀ p ∈ X.pn ++ pins, p.1 ≠ b) :
    Inv X pins σ H' { s with heap := h', gens := g', drawn := d', toks := t' } := by
  obtain ⟨m, ⟨o, es, ep, ho, r⟩, _⟩ := id I.loc
  obtain ⟨sl, hL⟩ := u.any ho I.free fun z => (hch _ z).2.1 rfl
  exact I.step (ch := ch) hch (fun b o hL hb hc e n => u.keep b o e n (fun z => (List.mem_cons.mp (I.stkSub b z)).elim hL hb) hc) (fun b o _ _ hc e n => u.any e n hc) (fun b o hc e n => u.free b o e n hc) (fun b o hc e => u.there b o e hc) u.tups u.frzs u.tbls (fun m' hm => by
    obtain ⟨o', es', ep', ho', r'⟩ := hm
    rw [ho] at ho'; cases ho'
    exact ⟨_, es', ep', hL, r'⟩) hok hg
theorem Inv.turned {t' : Nat} {it : Addr} (I : Inv X pins σ H s) (k : ∀ b o, b ≠ it → s.heap.get? b = some o → h'.get? b = some o) (hn : H it = none) (hL : it ≠ X.env.locals)
    (h1 : it ∈ X.ex ∨ X.s₀.heap.objs.size ≤ it) (h2 : ∀ x c, X.env.cells.lookup x = some c → c ≠ it) (h3 : ∀ p ∈ X.pn ++ pins, p.1 ≠ it) : Inv X pins σ H { s with heap := h', toks := t' } := by
  have nit : ∀ b u, H b = some u → b ≠ it := fun b u e z => by rw [z, hn] at e; cases e
  refine I.step (g' := s.gens) (d' := s.drawn) (ch := [it]) (fun b hb => ?_) (fun b o _ _ hc e _ => k b o (fun z => hc (by simp [z])) e) (fun b o _ _ hc e _ => ⟨o.slots, k b o (fun z => hc (by simp [z])) e⟩) (fun _ _ _ _ n => n)
    (fun b o hc e => ⟨o, k b o (fun z => hc (by simp [z])) e⟩) (fun _ _ e => e) (fun _ _ _ e => e) (fun b ps e => ⟨#[], by rw [e]; simp⟩) (fun m hm => ?_) (fun b u e => ?_) I.bare
  · have e : b = it := by simpa using hb
    subst e
    exact ⟨h1, hL, h2, h3⟩
  · obtain ⟨o, es, ep, ho, r⟩ := hm
    exact ⟨o, es, ep, k _ o (Ne.symm hL) ho, r⟩
  · refine (I.hok b u e).stay (fun c v hc q => k c v ?_ q) (fun _ q => q) fun _ _ q => q
    rcases hc with z | z
    · rw [z]; exact nit b u e
    · exact nit c _ z
theorem Inv.tok (I : Inv X pins σ H s) (t : Nat) : Inv X pins σ H { s with toks := t } := I.un (h' := s.heap) (t' := t) Un.refl I.hok
theorem Inv.kept {t' : Nat} (I : Inv X pins σ H s) (k : ∀ b u, s.heap.get? b = some u → h'.get? b = some u) : Inv X pins σ H { s with heap := h', toks := t' } := I.un (Un.kept k) (I.hok.kept k)
theorem Inv.laid {a : Addr} {o : HO} {t' : Nat} (I : Inv X pins σ H s) (k : ∀ b u, s.heap.get? b = some u → h'.get? b = some u) (hp : s.heap.objs.size ≤ a) (new : ObjOk X.prog X.w (upd H a o) h' a o) :
    Inv X pins σ (upd H a o) { s with heap := h', toks := t' } := I.un (Un.laid k hp (I.hok.fresh hp)) (I.hok.laid k hp new)
theorem Inv.write {x e : Addr} {o : HO} {t' : Nat} (I : Inv X pins σ H s) (mu : Mut (H x)) (he : e = x ∨ H e = some (.own x)) (k : ∀ b u, b ≠ e → s.heap.get? b = some u → h'.get? b = some u) (heo : ∃ u, h'.get? e = some u)
    (new : ObjOk X.prog X.w (upd H x o) h' x o) : Inv X pins σ (upd H x o) { s with heap := h', toks := t' } := I.un (Un.write mu he k heo) (I.hok.write mu he k heo new)
theorem Inv.pins_of {pins' : List (Addr × Obj)} (I : Inv X pins σ H s) (h : ∀ p ∈ pins', s.heap.get? p.1 = some p.2 ∧ H p.1 = none ∧ p.1 ≠ X.env.locals ∧ p.1 ∉ X.fs ∧ ∀ v, p.2.data ≠ .cell v) : Inv X pins' σ H s :=
  ⟨I.ok, I.os, I.bare, I.base, I.loc, I.cell, I.free, I.freeC, fun p hp => (List.mem_append.mp hp).elim (fun z => I.pin p (List.mem_append_left _ z)) (h p), I.hok, I.len⟩
theorem nodup_ix {N : List Str} (hN : N.Nodup) {i j : Nat} {x : Str} (a : N[i]? = some x) (b : N[j]? = some x) : i = j := by
  obtain ⟨h1, e1⟩ := List.getElem?_eq_some_iff.mp a
  obtain ⟨h2, e2⟩ := List.getElem?_eq_some_iff.mp b
  exact (List.getElem_inj hN).mp (e1.trans e2.symm)
theorem store_ok2 {M : Model} {A : Around} {E : Value → Shared → Prop} {i : Nat} {x : Str} {v : V} {u : Value} {Q : Unit → Shared → Prop} (I : Inv X pins σ H s) (hN : X.N.Nodup) (hi : X.N[i]? = some x) (hx : Loc X.env.scope x) (r : RelV v u)
    (h : ∀ s', Inv X pins (σ.set i (some v)) H s' → (∃ a, Heap.SameBut a s.heap s'.heap ∧ (a = X.env.locals ∨ X.env.cells.lookup x = some a)) → Q () s') (hf : X.fn x = true ∨ X.env.scope.names.lookup x = some .local := by first | exact .inl rfl | exact .inr rfl | assumption) : wpAny M A (storeName X.env x u) Q E s := by
  obtain ⟨m, hn, hl⟩ := id I.loc
  have hcls : (X.env.scope.kind == .class || (X.env.scope.kind == .module && X.env.locals != X.env.globals)) = false := by rw [I.ok.kind]; rfl
  have hiσ : i < σ.length := by rw [I.len]; exact (List.getElem?_eq_some_iff.mp hi).1
  have cne := I.cne
  have tracked : ∀ {a : Addr} {h' : Heap}, (∃ o, s.heap.get? a = some o ∧ H a = none) → Heap.SameBut a s.heap h' → HOk X.prog X.w H h' := fun {a h'} ha hs b ob e => by
    obtain ⟨_, _, hfree⟩ := ha
    refine (I.hok b ob e).stay (fun c w' hc q => (hs.2 c ?_).trans q) (fun _ q => q) fun _ _ q => q
    rintro rfl
    rcases hc with rfl | hc
    · rw [hfree] at e; cases e
    · rw [hfree] at hc; cases hc
  rcases hx with hk | hk
  · refine wpAny_storeName_local hk hn (fun h' hn' hs => ?_) hcls
    obtain ⟨oL, _, _, hoL, _⟩ := id hn
    refine h _ ⟨I.ok, I.os, I.bare, ⟨fun b o e n hb hx => ?_, fun b o e n hb hx => ?_, I.base.free, fun b o e hx => ?_, I.base.tups, I.base.frzs, I.base.tbls⟩, ⟨_, hn', fun j y v' e1 e2 e3 => ?_⟩, fun y c e => ?_, I.free, I.freeC, fun p hp => ?_, tracked ⟨oL, hoL, I.free⟩ hs, by simpa using I.len⟩ ⟨_, hs, .inl rfl⟩
    · exact (hs.2 b (Nat.ne_of_lt (Nat.lt_of_lt_of_le (Heap.lt_size e) I.ok.above))).trans (I.base.keep b o e n hb hx)
    · obtain ⟨sl, e1⟩ := I.base.slot b o e n hb hx
      exact ⟨sl, (hs.2 b (Nat.ne_of_lt (Nat.lt_of_lt_of_le (Heap.lt_size e) I.ok.above))).trans e1⟩
    · obtain ⟨o', e1⟩ := I.base.there b o e hx
      exact ⟨o', (hs.2 b (Nat.ne_of_lt (Nat.lt_of_lt_of_le (Heap.lt_size e) I.ok.above))).trans e1⟩
    · by_cases hj : j = i
      · subst hj
        rw [hi] at e1; cases e1
        rw [List.getElem?_set_self hiσ] at e2
        cases e2
        exact ⟨u, r, .inl ⟨hk, by simp⟩⟩
      · rw [List.getElem?_set_ne (Ne.symm hj)] at e2
        obtain ⟨u', r', q⟩ := hl j y v' e1 e2 e3
        refine ⟨u', r', ?_⟩
        rcases q with ⟨k, e⟩ | ⟨k, c, e, z⟩
        · refine .inl ⟨k, ?_⟩
          have : y ≠ x := fun e => hj (nodup_ix hN e1 (e ▸ hi))
          simp [this, e]
        · exact .inr ⟨k, c, e, z.sameBut hs (cne y c e)⟩
    · obtain ⟨w', z⟩ := I.cell y c e
      exact ⟨w', z.sameBut hs (cne y c e)⟩
    · obtain ⟨e, n, ne, nf, d⟩ := I.pin p hp
      exact ⟨(hs.2 p.1 ne).trans e, n, ne, nf, d⟩
  · have hfn : X.fn x = true := by
      rcases hf with z | z
      · exact z
      · rw [z] at hk; cases hk
    obtain ⟨c, hc⟩ := I.ok.has x (.inl hk)
    obtain ⟨w', z⟩ := I.cell x c hc
    refine wpAny_storeName_cell I.ok.kind hk hc z (fun h' hc' hs => ?_)
    obtain ⟨oc, hoc, hocd⟩ := id z
    refine h { s with heap := h' } ⟨I.ok, I.os, I.bare, ⟨fun b o e n hb hx => ?_, fun b o e n hb hx => ?_, I.base.free, fun b o e hx => ?_, I.base.tups, I.base.frzs, I.base.tbls⟩, ⟨m, hn.sameBut hs (Ne.symm (cne x c hc)), fun j y v' e1 e2 e3 => ?_⟩, fun y c' e => ?_, I.free, I.freeC, fun p hp => ?_, tracked ⟨oc, hoc, I.freeC x c hc⟩ hs, by simpa using I.len⟩ ⟨c, hs, .inr hc⟩
    · exact (hs.2 b (Nat.ne_of_lt (Nat.lt_of_lt_of_le (Heap.lt_size e) (I.ok.cab x c hfn hc)))).trans (I.base.keep b o e n hb hx)
    · obtain ⟨sl, e1⟩ := I.base.slot b o e n hb hx
      exact ⟨sl, (hs.2 b (Nat.ne_of_lt (Nat.lt_of_lt_of_le (Heap.lt_size e) (I.ok.cab x c hfn hc)))).trans e1⟩
    · obtain ⟨o', e1⟩ := I.base.there b o e hx
      exact ⟨o', (hs.2 b (Nat.ne_of_lt (Nat.lt_of_lt_of_le (Heap.lt_size e) (I.ok.cab x c hfn hc)))).trans e1⟩
    · by_cases hj : j = i
      · subst hj
        rw [hi] at e1; cases e1
        rw [List.getElem?_set_self hiσ] at e2
        cases e2
        exact ⟨u, r, .inr ⟨.inl hk, c, hc, hc'⟩⟩
      · rw [List.getElem?_set_ne (Ne.symm hj)] at e2
        obtain ⟨u', r', q⟩ := hl j y v' e1 e2 e3
        refine ⟨u', r', ?_⟩
        rcases q with q | ⟨k, c', e, z'⟩
        · exact .inl q
        · refine .inr ⟨k, c', e, z'.sameBut hs ?_⟩
          rintro rfl
          exact hj (nodup_ix hN e1 (I.ok.inj _ _ _ e hc ▸ hi))
    · by_cases hcc : c' = c
      · subst hcc; exact ⟨_, hc'⟩
      · obtain ⟨w2, z2⟩ := I.cell y c' e
        exact ⟨w2, z2.sameBut hs hcc⟩
    · obtain ⟨e, n, ne, nf, d⟩ := I.pin p hp
      refine ⟨(hs.2 p.1 ?_).trans e, n, ne, nf, d⟩
      intro q
      rw [q, hoc] at e
      have q' : oc = p.2 := Option.some.inj e
      exact d w' (by rw [← q']; exact hocd)
theorem store_ok {M : Model} {A : Around} {E : Value → Shared → Prop} {i : Nat} {x : Str} {v : V} {u : Value} {Q : Unit → Shared → Prop} (I : Inv X pins σ H s) (hN : X.N.Nodup) (hi : X.N[i]? = some x) (hx : Loc X.env.scope x) (r : RelV v u)
    (h : ∀ s', Inv X pins (σ.set i (some v)) H s' → Q () s') (hf : X.fn x = true ∨ X.env.scope.names.lookup x = some .local := by first | exact .inl rfl | exact .inr rfl | assumption) : wpAny M A (storeName X.env x u) Q E s :=
  store_ok2 I hN hi hx r (fun s' I' _ => h s' I') hf
theorem Inv.call' {s' : Shared} {ch : List Addr} (I : Inv X pins σ H s) (ho : s'.os = s.os) (u : Un (frs X.stack) ch H H' s.heap s'.heap) (hok : HOk X.prog X.w H' s'.heap) (hg : AllBare s'.gens)
    (hch : ∀ b ∈ ch, (b ∈ X.ex ∨ X.s₀.heap.objs.size ≤ b) ∧ b ≠ X.env.locals ∧ (∀ x c, X.env.cells.lookup x = some c → c ≠ b) ∧ ∀ p ∈ X.pn ++ pins, p.1 ≠ b) : Inv X pins σ H' s' := by
  obtain ⟨h', g', d', t', o'⟩ := s'
  have e : o' = s.os := ho
  subst e
  exact I.call (g' := g') (t' := t') (d' := d') u hok hg hch
end
abbrev XK := Value → Option Addr → Hp → Prop
abbrev St := List (Option V)
abbrev VK := V → Hp → Prop
abbrev TE := St → Hp → VK → Prop
abbrev TT := St → Hp → (Bool → Hp → Prop) → Prop
abbrev TA := St → Hp → (List V → Hp → Prop) → Prop
structure Ends where
  nx : St → Hp → Prop
  rt : VK
  bk : St → Hp → Prop := fun _ _ => False
  ct : St → Hp → Prop := fun _ _ => False
abbrev TS := Ends → St → Hp → Prop
def EP (X : Cx) (pins : List (Addr × Obj)) (σ : St) (Q : VK) (u : Value) (s' : Shared) : Prop := ∃ v H', Inv X pins σ H' s' ∧ RelV v u ∧ Q v H'
def TP (X : Cx) (pins : List (Addr × Obj)) (σ : St) (Q : Bool → Hp → Prop) (b : Bool) (s' : Shared) : Prop := ∃ H', Inv X pins σ H' s' ∧ Q b H'
def AP (X : Cx) (pins : List (Addr × Obj)) (σ : St) (Q : List V → Hp → Prop) (us : List Value) (s' : Shared) : Prop := ∃ vs H', Inv X pins σ H' s' ∧ Vals vs us ∧ Q vs H'
def SP (X : Cx) (pins : List (Addr × Obj)) (D : Ends) (f : Flow) (s' : Shared) : Prop :=
  match f with
  | .next => ∃ σ' H', Inv X pins σ' H' s' ∧ D.nx σ' H'
  | .brk => ∃ σ' H', Inv X pins σ' H' s' ∧ D.bk σ' H'
  | .cont => ∃ σ' H', Inv X pins σ' H' s' ∧ D.ct σ' H'
  | .ret u => ∃ v σ' H', Inv X pins σ' H' s' ∧ RelV v u ∧ D.rt v H'
def PE (X : Cx) (e : Expr) (t : TE) : Prop :=
  ∀ (pins : List (Addr × Obj)) (s : Shared) (σ : St) (H : Hp) (Q : VK), Inv X pins σ H s → t σ H Q → wpAny (model X.prog X.w) X.A (eval e X.env) (EP X pins σ Q) X.xe s
def PT (X : Cx) (e : Expr) (t : TT) : Prop :=
  ∀ (pins : List (Addr × Obj)) (s : Shared) (σ : St) (H : Hp) (Q : Bool → Hp → Prop), Inv X pins σ H s → t σ H Q → wpAny (model X.prog X.w) X.A (isTrue e X.env (eval e X.env)) (TP X pins σ Q) X.xe s
def PW (X : Cx) (e : Expr) (t : TT) : Prop :=
  ∀ (whole : Sem Value) (pins : List (Addr × Obj)) (s : Shared) (σ : St) (H : Hp) (Q : Bool → Hp → Prop), Inv X pins σ H s → t σ H Q → wpAny (model X.prog X.w) X.A (isTrue e X.env whole) (TP X pins σ Q) X.xe s
theorem PW.pt {X : Cx} {e : Expr} {t : TT} (h : PW X e t) : PT X e t := h _
def PA (X : Cx) (es : List Expr) (t : TA) : Prop :=
  ∀ (pos : Pos) (pins : List (Addr × Obj)) (s : Shared) (σ : St) (H : Hp) (Q : List V → Hp → Prop), Inv X pins σ H s → t σ H Q → wpAny (model X.prog X.w) X.A (spliced (backTo pos (starEach es X.env))) (AP X pins σ Q) X.xe s
def PS (X : Cx) (st : Stmt) (t : TS) : Prop :=
  ∀ (pins : List (Addr × Obj)) (s : Shared) (σ : St) (H : Hp) (D : Ends), Inv X pins σ H s → t D σ H → wpAny (model X.prog X.w) X.A (exec st X.env) (SP X pins D) X.xe s
def PSs (X : Cx) (st : List Stmt) (t : TS) : Prop :=
  ∀ (pins : List (Addr × Obj)) (s : Shared) (σ : St) (H : Hp) (D : Ends), Inv X pins σ H s → t D σ H → wpAny (model X.prog X.w) X.A (execs st X.env) (SP X pins D) X.xe s
theorem thn {α : Type} {t : Sem α} {Q Q' : α → Shared → Prop} {M : Model} {A : Around} {E : Value → Shared → Prop} {s : Shared} (h : wpAny M A t Q E s) (hQ : ∀ a s, Q a s → Q' a s) : wpAny M A t Q' E s := wpAny_mono h hQ fun _ _ x => x
end L2
namespace L2
open PySem PySem.Spec PyProof.Rows
section
variable {X : Cx}
def tVar (i : Nat) : TE := fun σ H Q => ∃ v, σ[i]? = some (some v) ∧ Q v H
def tC (v : V) : TE := fun _ H Q => Q v H
theorem pe_var {i : Nat} {x : Str} {pos : Pos} (hN : X.N[i]? = some x) (hv : Vis X.env.scope x) (hd : (x == ("__debug__" : Str)) = false := by decide) (hcd : (x == ("__classdict__" : Str)) = false := by decide) : PE X (.Name x pos) (tVar i) := by
  intro pins s σ H Q I h
  obtain ⟨v, e, h⟩ := h
  obtain ⟨m, hn, hl⟩ := I.loc
  obtain ⟨u, r, l⟩ := hl i x v hN e hv
  have fin : EP X pins σ Q u s := ⟨v, H, I, r, h⟩
  rcases l with ⟨hk, hm⟩ | ⟨hk, c, hc, hcell⟩
  · exact wpAny_Name (wpAny_loadName_local I.ok.kind hk hn hm fin) hd
  · rcases hk with hk | hk
    · exact wpAny_Name (wpAny_loadName_cell I.ok.kind hk hc hcell fin) hd
    · exact wpAny_Name (wpAny_loadName_free I.ok.kind hk hc hcell fin hcd) hd
theorem pe_int {i j pos} : PE X (.Constant (.int i) j pos) (tC (.int i)) := fun _ _ _ H _ I h => wpAny_Constant_int ⟨.int i, H, I.tok _, ⟨_, rfl⟩, h⟩
theorem pe_bl {b j pos} : PE X (.Constant (.bool b) j pos) (tC (.bl b)) := fun _ _ _ H _ I h => Constant_bool ⟨.bl b, H, I, rfl, h⟩
theorem pe_non {j pos} : PE X (.Constant .none j pos) (tC .non) := fun _ _ _ H _ I h => Constant_none ⟨.non, H, I, rfl, h⟩
theorem pe_str {x j pos} : PE X (.Constant (.str x) j pos) (tC (.str x)) := fun _ _ _ H _ I h => Calls.Constant_str ⟨.str x, H, I.tok _, ⟨_, rfl⟩, h⟩
def Gl (X : Cx) (x : Str) : Prop := X.env.kindOf x = some .globalImplicit
theorem ld_glob {E : Value → Shared → Prop} {pins : List (Addr × Obj)} {s : Shared} {σ : St} {H : Hp} {x : Str} {u : Value} {pos : Pos} {Q : Value → Shared → Prop} (I : Inv X pins σ H s) (hg : Gl X x) (hm : X.mg x = some u) (h : Q u s)
    (hd : (x == ("__debug__" : Str)) = false := by decide) : wpAny (model X.prog X.w) X.A (eval (.Name x pos) X.env) Q E s :=
  Calls.Name_function_global I.ok.kind hg (Calls.loadGlobal_global (by rw [I.ok.glob]; exact I.mod.glob.keeps I.bk) hm h) hd
theorem ld_blt {E : Value → Shared → Prop} {pins : List (Addr × Obj)} {s : Shared} {σ : St} {H : Hp} {x : Str} {u : Value} {pos : Pos} {Q : Value → Shared → Prop} (I : Inv X pins σ H s) (hg : Gl X x) (hm : X.mg x = none) (hv : bootBuiltins x = some u) (h : Q u s)
    (hn : x ≠ "__name__" := by decide) (hd : (x == ("__debug__" : Str)) = false := by decide) : wpAny (model X.prog X.w) X.A (eval (.Name x pos) X.env) Q E s := by
  obtain ⟨mb, h1, h2⟩ := I.mod.blt
  exact Calls.Name_function_global I.ok.kind hg (Calls.loadGlobal_builtin (by rw [I.ok.glob]; exact I.mod.glob.keeps I.bk) hm (by rw [I.ok.blt]; exact h1.keeps I.bk) ((h2 x hn).trans hv) h) hd
theorem pe_glob {x : Str} {v : V} {u : Value} {pos : Pos} (hg : Gl X x) (hm : X.mg x = some u) (r : RelV v u) (hd : (x == ("__debug__" : Str)) = false := by decide) : PE X (.Name x pos) (tC v) :=
  fun _ _ _ H _ I h => ld_glob I hg hm ⟨v, H, I, r, h⟩ hd
theorem pe_bltn {x : Str} {v : V} {u : Value} {pos : Pos} (hg : Gl X x) (hm : X.mg x = none) (hv : bootBuiltins x = some u) (r : RelV v u) (hn : x ≠ "__name__" := by decide) (hd : (x == ("__debug__" : Str)) = false := by decide) : PE X (.Name x pos) (tC v) :=
  fun _ _ _ H _ I h => ld_blt I hg hm hv ⟨v, H, I, r, h⟩ hn hd
variable {a b : Expr} {ta tb : TE} {pos : Pos}
def PC (X : Cx) (op : CmpOp) (a b : Expr) (t : TE) : Prop :=
  ∀ (pins : List (Addr × Obj)) (s : Shared) (σ : St) (H : Hp) (Q : VK), Inv X pins σ H s → t σ H Q →
    wpAny (model X.prog X.w) X.A (eval a X.env) (fun v s₁ => wpAny (model X.prog X.w) X.A (eval b X.env) (fun u s₂ => wpAny (model X.prog X.w) X.A (compareOp op v u) (EP X pins σ Q) X.xe s₂) X.xe s₁) X.xe s
def tB (t : TE) : TT := fun σ H Q => t σ H fun x H1 => ∃ c, x = .bl c ∧ Q c H1
theorem pt_cmp {op : CmpOp} {t : TE} (h : PC X op a b t) (h1 : behindInMarks op b = false := by first | exact nobehind _ (by decide) (by decide) | rfl) : PT X (.Compare a [op] [b] pos) (tB t) := by
  intro pins s σ H Q I hw
  refine wpAny_isTrue_Compare1 (thn (h pins s σ H _ I hw) fun v s1 h1 => thn h1 fun u s2 h2 => thn h2 fun c s3 ⟨x, H1, I1, r1, q1⟩ => ?_) h1
  obtain ⟨d, rfl, q⟩ := q1
  cases r1
  exact wpAny_truthy_bool ⟨H1, I1, q⟩
theorem pt_val {e : Expr} {t : TE} (h : PE X e t) (he : ∀ whole, isTrue e X.env whole = (do let v ← whole; standAt e.pos; holding [v] (truthy v)) := by intro _; rfl) : PT X e (tB t) := by
  intro pins s σ H Q I hw
  refine isTrue_plain (thn (h pins s σ H _ I hw) fun v s1 ⟨x, H1, I1, r1, q1⟩ => ?_) (he _)
  obtain ⟨d, rfl, q⟩ := q1
  cases r1
  exact wpAny_truthy_bool ⟨H1, I1, q⟩
variable {tA tB' : TT} {rest : List Expr}
def tAnd (t u : TT) : TT := fun σ H Q => t σ H fun c H1 => if c = true then u σ H1 Q else Q false H1
def tOr (t u : TT) : TT := fun σ H Q => t σ H fun c H1 => if c = true then Q true H1 else u σ H1 Q
def tNot (t : TT) : TT := fun σ H Q => t σ H fun c H1 => Q (!c) H1
theorem pw_and1 (ha : PT X a tA) : PW X (.BoolOp .And [a] pos) tA := by
  intro wh pins s σ H Q I h
  refine isTrue_and (thn (ha pins s σ H Q I h) fun c s1 e => ?_)
  cases c with
  | true => exact isTrue_and_nil e
  | false => exact e
theorem pw_or1 (ha : PT X a tA) : PW X (.BoolOp .Or [a] pos) tA := by
  intro wh pins s σ H Q I h
  refine isTrue_or (thn (ha pins s σ H Q I h) fun c s1 e => ?_)
  cases c with
  | false => exact isTrue_or_nil e
  | true => exact e
theorem pw_and (ha : PT X a tA) (hb : PW X (.BoolOp .And (b :: rest) pos) tB') : PW X (.BoolOp .And (a :: b :: rest) pos) (tAnd tA tB') := by
  intro wh pins s σ H Q I h
  refine isTrue_and (thn (ha pins s σ H _ I h) fun c s1 ⟨H1, I1, q1⟩ => ?_)
  cases c with
  | true => exact hb wh pins s1 σ H1 Q I1 q1
  | false => exact ⟨H1, I1, q1⟩
theorem pw_or (ha : PT X a tA) (hb : PW X (.BoolOp .Or (b :: rest) pos) tB') : PW X (.BoolOp .Or (a :: b :: rest) pos) (tOr tA tB') := by
  intro wh pins s σ H Q I h
  refine isTrue_or (thn (ha pins s σ H _ I h) fun c s1 ⟨H1, I1, q1⟩ => ?_)
  cases c with
  | true => exact ⟨H1, I1, q1⟩
  | false => exact hb wh pins s1 σ H1 Q I1 q1
theorem pt_not (ha : PT X a tA) : PT X (.UnaryOp .Not a pos) (tNot tA) := by
  intro pins s σ H Q I h
  exact isTrue_not (ha pins s σ H (fun c H1 => Q (!c) H1) I h)
def tAndV (ta tb : TE) : TE := fun σ H Q => ta σ H fun x H1 => ∃ c, x = .bl c ∧ if c = true then tb σ H1 Q else Q (.bl false) H1
def tNotV (ta : TE) : TE := fun σ H Q => ta σ H fun x H1 => ∃ c, x = .bl c ∧ Q (.bl (!c)) H1
theorem pe_one {op} {t : TE} (h : PE X a t) : PE X (.BoolOp op [a] pos) t := fun pins s σ H Q I hw => BoolOp_one (h pins s σ H Q I hw)
theorem pe_and (ha : PE X a ta) (hb : PE X (.BoolOp .And (b :: rest) pos) tb) : PE X (.BoolOp .And (a :: b :: rest) pos) (tAndV ta tb) := by
  intro pins s σ H Q I h
  refine BoolOp_and (thn (ha pins s σ H _ I h) fun v s1 ⟨x, H1, I1, r1, q1⟩ => ?_)
  obtain ⟨c, rfl, q1⟩ := q1
  cases r1
  refine wpAny_truthy_bool ?_
  cases c with
  | true => exact hb pins s1 σ H1 Q I1 q1
  | false => exact ⟨.bl false, H1, I1, rfl, q1⟩
theorem pe_not (ha : PE X a ta) : PE X (.UnaryOp .Not a pos) (tNotV ta) := by
  intro pins s σ H Q I h
  refine UnaryOp_ (thn (ha pins s σ H _ I h) fun v s1 ⟨x, H1, I1, r1, q1⟩ => ?_)
  obtain ⟨c, rfl, q1⟩ := q1
  cases r1
  exact not_of (wpAny_truthy_bool ⟨.bl (!c), H1, I1, rfl, q1⟩)
end
end L2
namespace L2
open PySem PySem.Spec PyProof.Rows
def SqL (K : PySem.W.Frag) (H : Hp) (a : Addr) (xs : List V) : Prop :=
  Rd H a (.lst xs) ∨
    ∃ (o : Obj) (its : Array Value) (n : Nat), K.lookup a = some o ∧ o.cls = .type "list" ∧ o.dict = none ∧ o.data = .seq its n ∧ its.size ≤ sizeLine ∧ Vals xs its.toList
def SqT (K : PySem.W.Frag) (H : Hp) (a : Addr) (xs : List V) : Prop :=
  Rd H a (.tup xs) ∨
    ∃ (o : Obj) (its : Array Value) (n : Nat), K.lookup a = some o ∧ o.cls = .type "tuple" ∧ o.data = .seq its n ∧ its.size ≤ sizeLine ∧ Vals xs its.toList
def absV : Value → Option V
  | .none => some .non
  | .bool b => some (.bl b)
  | .int i _ => some (.int i)
  | .str x _ => some (.str x)
  | .bytes b _ => some (.byt b)
  | .float b _ => some (.flt b)
  | .ref a => some (.ref a)
  | .type n => some (.ty n)
  | _ => none
theorem RelV.abs {x : V} {u : Value} (r : RelV x u) : absV u = some x := by
  cases x with
  | non => cases r; rfl
  | bl _ => cases r; rfl
  | int _ => obtain ⟨t, rfl⟩ := r; rfl
  | str _ => obtain ⟨t, rfl⟩ := r; rfl
  | byt _ => obtain ⟨t, rfl⟩ := r; rfl
  | flt _ => obtain ⟨t, rfl⟩ := r; rfl
  | ref _ => cases r; rfl
  | ty _ => cases r; rfl
theorem RelV.inj {x y : V} {u : Value} (r : RelV x u) (q : RelV y u) : x = y := Option.some.inj (r.abs.symm.trans q.abs)
theorem Vals.inj : ∀ {xs ys : List V} {us : List Value}, Vals xs us → Vals ys us → xs = ys
  | _, _, _, .nil, .nil => rfl
  | _, _, _, .cons r t, .cons r' t' => by rw [r.inj r', Vals.inj t t']
section
variable {X : Cx} {pins : List (Addr × Obj)} {σ : St} {H : Hp} {s : Shared} {a : Addr} {xs ys : List V}
theorem SqL.of {K : PySem.W.Frag} (h : H a = some (.lst xs)) : SqL K H a xs := .inl (.inl h)
theorem SqT.of {K : PySem.W.Frag} (h : H a = some (.tup xs)) : SqT K H a xs := .inl (.inl h)
theorem Inv.list (I : Inv X pins σ H s) (h : SqL X.K H a xs) : ∃ its : List Value, Vals xs its ∧ PlainL s.heap a its.toArray ∧ xs.length ≤ sizeLine := by
  rcases h with h | ⟨o, its, n, hk, hc, hd, hs, hz, r⟩
  · obtain ⟨z, its, n, r, e⟩ := h.ok I.hok
    exact ⟨its, r, ⟨_, n, e, rfl, rfl, rfl⟩, z⟩
  · refine ⟨its.toList, r, ⟨o, n, I.kIn a o hk, hc, hd, by simpa using hs⟩, ?_⟩
    have e := r.length
    simp only [Array.length_toList] at e
    omega
theorem Inv.tuple (I : Inv X pins σ H s) (h : SqT X.K H a xs) : ∃ its : List Value, Vals xs its ∧ IsTup s.heap a its.toArray ∧ xs.length ≤ sizeLine := by
  rcases h with h | ⟨o, its, n, hk, hc, hs, hz, r⟩
  · obtain ⟨z, its, r, p⟩ := h.ok I.hok
    exact ⟨its, r, p, z⟩
  · refine ⟨its.toList, r, ⟨o, I.kIn a o hk, hc, n, by simpa using hs⟩, ?_⟩
    have e := r.length
    simp only [Array.length_toList] at e
    omega
theorem Inv.list_inj (I : Inv X pins σ H s) (h : SqL X.K H a xs) (h' : SqL X.K H a ys) : xs = ys := by
  obtain ⟨its, r, ⟨o, n, e, _, _, d⟩, _⟩ := I.list h
  obtain ⟨its', r', ⟨o', n', e', _, _, d'⟩, _⟩ := I.list h'
  rw [e] at e'; cases e'
  rw [d] at d'
  injection d' with d1 _
  have : its = its' := by simpa using congrArg Array.toList d1
  subst this
  exact r.inj r'
theorem Inv.tuple_inj (I : Inv X pins σ H s) (h : SqT X.K H a xs) (h' : SqT X.K H a ys) : xs = ys := by
  obtain ⟨its, r, ⟨o, e, _, n, d⟩, _⟩ := I.tuple h
  obtain ⟨its', r', ⟨o', e', _, n', d'⟩, _⟩ := I.tuple h'
  rw [e] at e'; cases e'
  rw [d] at d'
  injection d' with d1 _
  have : its = its' := by simpa using congrArg Array.toList d1
  subst this
  exact r.inj r'
end
abbrev Cx.wish (X : Cx) (E : Value → Shared → Prop) : Cx := { X with xe := E }
abbrev Cx.nox (X : Cx) : Cx := X.wish fun _ _ => False
theorem Cx.Ok.wish {X : Cx} (ok : X.Ok) (E : Value → Shared → Prop) : (X.wish E).Ok :=
  ⟨ok.mod, ok.kind, ok.glob, ok.blt, ok.above, ok.inj, ok.has, ok.cab, ok.hd, ok.frames, ok.stk, ok.exf, ok.bs, ok.bsz, ok.noex, ok.exfs, ok.funs, ok.frf⟩
theorem Cx.Ok.unwish {X : Cx} {E : Value → Shared → Prop} (ok : (X.wish E).Ok) : X.Ok :=
  ⟨ok.mod, ok.kind, ok.glob, ok.blt, ok.above, ok.inj, ok.has, ok.cab, ok.hd, ok.frames, ok.stk, ok.exf, ok.bs, ok.bsz, ok.noex, ok.exfs, ok.funs, ok.frf⟩
section
variable {X : Cx} {pins : List (Addr × Obj)} {σ : St} {H : Hp} {s : Shared} {E : Value → Shared → Prop}
theorem Inv.wish (I : Inv X pins σ H s) (E : Value → Shared → Prop) : Inv (X.wish E) pins σ H s := ⟨I.ok.wish E, I.os, I.bare, I.base, I.loc, I.cell, I.free, I.freeC, I.pin, I.hok, I.len⟩
theorem Inv.unwish (I : Inv (X.wish E) pins σ H s) : Inv X pins σ H s := ⟨I.ok.unwish, I.os, I.bare, I.base, I.loc, I.cell, I.free, I.freeC, I.pin, I.hok, I.len⟩
theorem SP.unwish {D : Ends} {f : Flow} {s' : Shared} (h : SP (X.wish E) pins D f s') : SP X pins D f s' := by
  cases f with
  | next => obtain ⟨σ', H', I, q⟩ := h; exact ⟨σ', H', I.unwish, q⟩
  | brk => obtain ⟨σ', H', I, q⟩ := h; exact ⟨σ', H', I.unwish, q⟩
  | cont => obtain ⟨σ', H', I, q⟩ := h; exact ⟨σ', H', I.unwish, q⟩
  | ret u => obtain ⟨v, σ', H', I, r, q⟩ := h; exact ⟨v, σ', H', I.unwish, r, q⟩
theorem PSs.nox {st : List Stmt} {t : TS} (h : PSs X.nox st t) : PSs X st t := fun pins s σ H D I hw =>
  wpAny_mono (h pins s σ H D (I.wish _) hw) (fun _ _ q => q.unwish) fun _ _ z => False.elim z
end
section
variable {X : Cx} {st : Stmt} {rest : List Stmt} {t u : TS} {e : Expr} {te : TE} {pos : Pos}
def tNext : TS := fun D σ H => D.nx σ H
def tSeq (t u : TS) : TS := fun D σ H => t { D with nx := u D } σ H
theorem pss_nil : PSs X [] tNext := fun _ _ σ H _ I h => wpAny_execs_nil ⟨σ, H, I, h⟩
theorem pss_cons (h1 : PS X st t) (h2 : PSs X rest u) : PSs X (st :: rest) (tSeq t u) := by
  intro pins s σ H D I h
  refine wpAny_execs_cons (thn (h1 pins s σ H { D with nx := u D } I h) fun f s1 q => ?_)
  cases f with
  | next =>
    obtain ⟨σ', H', I', q⟩ := q
    exact h2 pins s1 σ' H' D I' q
  | ret v => exact q
  | brk => exact q
  | cont => exact q
theorem pss_one (h1 : PS X st t) : PSs X [st] t := by
  intro pins s σ H D I h
  refine wpAny_execs_cons (thn (h1 pins s σ H D I h) fun f s1 q => ?_)
  cases f with
  | next => exact wpAny_execs_nil q
  | ret v => exact q
  | brk => exact q
  | cont => exact q
theorem Inv.quiet {pins : List (Addr × Obj)} {σ : St} {H : Hp} {s : Shared} (I : Inv X pins σ H s) : interactive X.env = false := by simp [interactive, I.ok.kind]
def tDrop (te : TE) : TS := fun D σ H => te σ H fun _ H1 => D.nx σ H1
theorem ps_expr (he : PE X e te) (hs : swapsWith e none pos.line X.env = pure false := by rfl) : PS X (.Expr e pos) (tDrop te) := by
  intro pins s σ H D I h
  exact wpAny_Expr_any (thn (he pins s σ H _ I h) fun v s1 ⟨x, H1, I1, r1, q1⟩ => ⟨σ, H1, I1, q1⟩) I.quiet hs
def tRet (te : TE) : TS := fun D σ H => te σ H D.rt
theorem ps_ret (he : PE X e te) : PS X (.Return (some e) pos) (tRet te) := by
  intro pins s σ H D I h
  exact wpAny_Return_some (thn (he pins s σ H _ I h) fun v s1 ⟨x, H1, I1, r1, q1⟩ => ⟨x, σ, H1, I1, r1, q1⟩)
def tIfS (c : TT) (t u : TS) : TS := fun D σ H => c σ H fun b H1 => if b = true then t D σ H1 else u D σ H1
theorem ps_if {c : Expr} {a b : List Stmt} {tc : TT} (hc : PT X c tc) (ha : PSs X a t) (hb : PSs X b u) : PS X (.If c a b pos) (tIfS tc t u) := by
  intro pins s σ H D I h
  refine wpAny_If (thn (hc pins s σ H _ I h) fun d s1 ⟨H1, I1, q1⟩ => ?_)
  cases d with
  | true => exact ha pins s1 σ H1 D I1 q1
  | false => exact hb pins s1 σ H1 D I1 q1
def tNever : TS := fun _ _ _ => False
theorem ps_never : PS X st tNever := fun _ _ _ _ _ _ h => h.elim
end
abbrev TG := V → St → Hp → (St → Hp → Prop) → Prop
abbrev TGs := List V → St → Hp → (St → Hp → Prop) → Prop
def PG (X : Cx) (target : Expr) (t : TG) : Prop :=
  ∀ (pins : List (Addr × Obj)) (s : Shared) (σ : St) (H : Hp) (v : V) (u : Value) (Q : St → Hp → Prop), Inv X pins σ H s → RelV v u → t v σ H Q →
    wpAny (model X.prog X.w) X.A (assign target X.env u) (fun _ s' => ∃ σ' H', Inv X pins σ' H' s' ∧ Q σ' H') X.xe s
def PGs (X : Cx) (ts : List Expr) (t : TGs) : Prop :=
  ∀ (pins : List (Addr × Obj)) (s : Shared) (σ : St) (H : Hp) (vs : List V) (us : List Value) (Q : St → Hp → Prop), Inv X pins σ H s → Vals vs us → t vs σ H Q →
    wpAny (model X.prog X.w) X.A (assignInOrder ((assignEach ts X.env).map (·.2)) us) (fun _ s' => ∃ σ' H', Inv X pins σ' H' s' ∧ Q σ' H') X.xe s
section
variable {X : Cx} {pos : Pos}
def gName (i : Nat) : TG := fun v σ H Q => Q (σ.set i (some v)) H
theorem pg_name {i : Nat} {x : Str} (hN : X.N.Nodup) (hi : X.N[i]? = some x) (hx : Loc X.env.scope x) (hf : X.fn x = true ∨ X.env.scope.names.lookup x = some .local := by first | exact .inl rfl | exact .inr rfl | assumption) : PG X (.Name x pos) (gName i) := by
  intro pins s σ H v u Q I r h
  exact wpAny_assign_Name (store_ok I hN hi hx r (fun s' I' => ⟨_, H, I', h⟩) hf)
def gNil : TGs := fun vs σ H Q => vs = [] ∧ Q σ H
def gCons (t : TG) (u : TGs) : TGs := fun vs σ H Q => ∃ v r, vs = v :: r ∧ t v σ H fun σ' H' => u r σ' H' Q
theorem pgs_nil : PGs X [] gNil := by
  intro pins s σ H vs us Q I r h
  obtain ⟨e, h⟩ := h
  subst e
  cases r
  exact assignInOrder_nil ⟨σ, H, I, h⟩
theorem pgs_cons {e : Expr} {es : List Expr} {t : TG} {u : TGs} (h1 : PG X e t) (h2 : PGs X es u)
    (hs : (assignEach (e :: es) X.env).map (·.2) = assign e X.env :: (assignEach es X.env).map (·.2) := by rfl) : PGs X (e :: es) (gCons t u) := by
  intro pins s σ H vs us Q I r h
  obtain ⟨v, vr, e1, h⟩ := h
  subst e1
  cases r with
  | cons r rr =>
    rw [hs]
    refine assignInOrder_cons (thn (h1 pins s σ H _ _ _ I r h) fun _ s1 ⟨σ1, H1, I1, q1⟩ => ?_)
    exact h2 pins s1 σ1 H1 _ _ Q I1 rr q1
def gTup (K : PySem.W.Frag) (n : Nat) (t : TGs) : TG := fun v σ H Q => ∃ a xs, v = .ref a ∧ SqT K H a xs ∧ xs.length = n ∧ t xs σ H Q
theorem pg_tup {es : List Expr} {k : Nat} {t : TGs} {n : Nat} (hc : X.calm = true) (h : PGs X es t)
    (hn : (assignEach es X.env).length = n := by rfl) (hst : (assignEach es X.env).findIdx? (·.1) = none := by rfl) : PG X (.Tuple es k pos) (gTup X.K n t) := by
  intro pins s σ H v u Q I r hw
  obtain ⟨a, xs, e1, hq, hl, hw⟩ := hw
  subst e1
  cases r
  obtain ⟨its, rv, ht, hz⟩ := I.tuple hq
  refine assign_Tuple_tuple (I.ok.hd hc) ht (by simp [hn, ← hl, rv.length]) hst fun h' hx => ?_
  have I1 : Inv X pins σ H { s with heap := h' } := I.kept (t' := s.toks) fun b o e => hx b o (Nat.ne_of_lt (Heap.lt_size e)) e
  exact h pins _ σ H xs _ Q I1 (by simpa using rv) hw
def tAsg (te : TE) (g : TG) : TS := fun D σ H => te σ H fun x H1 => g x σ H1 D.nx
theorem ps_asg {tg e : Expr} {te : TE} {g : TG} (he : PE X e te) (hg : PG X tg g) (hs : swapsWithSole [tg] e pos.line X.env = pure false := by rfl) (hw : swappedStores [tg] e X.env = pure none := by rfl)
    (h1 : (assignEach [tg] X.env).map (·.2) = [assign tg X.env] := by rfl) : PS X (.Assign [tg] e pos) (tAsg te g) := by
  intro pins s σ H D I h
  refine wpAny_Assign_stores (thn (he pins s σ H _ I h) fun v s1 ⟨x, H1, I1, r1, q1⟩ => ?_) hs hw
  rw [h1]
  exact thn (hg pins s1 σ H1 x v _ I1 r1 q1) fun _ s2 q => q
theorem ps_set {i : Nat} {x : Str} {e : Expr} {te : TE} {pos' : Pos} (hN : X.N.Nodup) (hi : X.N[i]? = some x) (hx : Loc X.env.scope x) (he : PE X e te) (hs : swapsWith e (some (.Name x pos')) pos.line X.env = pure false := by rfl) (hf : X.fn x = true ∨ X.env.scope.names.lookup x = some .local := by first | exact .inl rfl | exact .inr rfl | assumption) :
    PS X (.Assign [.Name x pos'] e pos) (tAsg te (gName i)) := by
  intro pins s σ H D I h
  refine wpAny_Assign_Name (thn (he pins s σ H _ I h) fun v s1 ⟨y, H1, I1, r1, q1⟩ => ?_) hs
  exact store_ok I1 hN hi hx r1 (fun s2 I2 => ⟨_, H1, I2, q1⟩) hf
end
section
variable {X : Cx} {pos : Pos}
def tWhile (c : TT) (tb : TS) : TS := fun D σ H => ∃ W : Nat → St → Hp → Prop, (∃ m, W m σ H) ∧ ∀ m σ H, W m σ H →
  c σ H fun b H1 => if b = true then ∃ N : St → Hp → Prop, (∀ σ' H', N σ' H' → ∃ m', m' < m ∧ W m' σ' H') ∧ tb { D with nx := N, ct := N, bk := D.nx } σ H1 else D.nx σ H1
theorem ps_while {c : Expr} {body : List Stmt} {tc : TT} {tb : TS} (hp : PassesOwn (model X.prog X.w) X.A X.env X.xe) (hc : PT X c tc) (hb : PSs X body tb) : PS X (.While c body [] pos) (tWhile tc tb) := by
  intro pins s σ H D I h
  obtain ⟨W, ⟨m0, w0⟩, turn⟩ := h
  refine wpAny_While (codeAny_whileLoop (fun n s' => ∃ σ' H', Inv X pins σ' H' s' ∧ W n σ' H') ?_ m0 ⟨σ, H, I, w0⟩)
  rintro n s1 ⟨σ1, H1, I1, w1⟩
  refine wpAny_passesOwn hp (thn (hc pins s1 σ1 H1 _ I1 (turn n σ1 H1 w1)) fun b s2 ⟨H2, I2, q2⟩ => ?_)
  cases b with
  | true =>
    obtain ⟨N, hN, q2⟩ := q2
    rw [if_pos rfl]
    refine wpAny_passesOwn hp (thn (hb pins s2 σ1 H2 _ I2 q2) fun f s3 q3 => ?_)
    cases f with
    | next =>
      obtain ⟨σ3, H3, I3, n3⟩ := q3
      obtain ⟨m', hm, w3⟩ := hN σ3 H3 n3
      exact ⟨m', hm, σ3, H3, I3, w3⟩
    | cont =>
      obtain ⟨σ3, H3, I3, n3⟩ := q3
      obtain ⟨m', hm, w3⟩ := hN σ3 H3 n3
      exact ⟨m', hm, σ3, H3, I3, w3⟩
    | brk => exact q3
    | ret v => exact q3
  | false =>
    rw [if_neg Bool.false_ne_true]
    exact wpAny_execs_nil ⟨σ1, H2, I2, q2⟩
end
structure It where
  go : Nat → Hp → Prop
  yld : Nat → Hp → V → Hp → Prop
  stop : Nat → Hp → Prop
def FpOk (X : Cx) (pins : List (Addr × Obj)) (H : Hp) (b : Addr) : Prop :=
  H b = none ∧ b ≠ X.env.locals ∧ b ∉ X.fs ∧ (b ∈ X.ex ∨ X.s₀.heap.objs.size ≤ b) ∧ (∀ x c, X.env.cells.lookup x = some c → c ≠ b) ∧ ∀ p ∈ X.pn ++ pins, p.1 ≠ b
theorem Inv.fpOk {X : Cx} {pins : List (Addr × Obj)} {σ : St} {H H' : Hp} {s : Shared} {b : Addr} (I : Inv X pins σ H s) (hb : s.heap.objs.size ≤ b) (hn : H' b = none) : FpOk X pins H' b := by
  refine ⟨hn, Nat.ne_of_gt (Nat.lt_of_lt_of_le I.lt hb), I.nofs hb, .inr (Nat.le_trans I.sz hb), fun x c e z => ?_, fun p hp z => ?_⟩
  · obtain ⟨v, q⟩ := I.cell x c e
    exact absurd (Nat.lt_of_lt_of_le q.lt (by rw [z]; exact hb)) (Nat.lt_irrefl _)
  · exact absurd (Nat.lt_of_lt_of_le (Heap.lt_size (I.pin p hp).1) (by rw [z]; exact hb)) (Nat.lt_irrefl _)
structure Turn (P : Program) (w : World) (K : PySem.W.Frag) (tg : Expr) (J : It) (fp : List Addr) (it : Addr) (tn : Nat → Heap → Prop) : Prop where
  mem : it ∈ fp
  obj : ∀ i h, tn i h → ∀ b ∈ fp, ∃ o, h.get? b = some o ∧ ∀ v, o.data ≠ .cell v
  keep : ∀ i h h', tn i h → (∀ b ∈ fp, ∀ o, h.get? b = some o → h'.get? b = some o) → tn i h'
  item : ∀ (X : Cx), X.prog = P → X.w = w → X.K = K → X.calm = true → ∀ (i : Nat) (pins : List (Addr × Obj)) (s : Shared) (σ : St) (H : Hp) (E : Value → Shared → Prop), Inv X pins σ H s → (∀ b ∈ fp, FpOk X pins H b) → tn i s.heap → J.go i H →
    wpAny (model P w) X.A (pyNext (.ref it)) (fun r s1 => ∃ u, r = some u ∧
      wpAny (model P w) X.A (letOwnedTupleGo tg (.ref it) u) (fun _ s2 => ∃ x H', Inv X pins σ H' s2 ∧ RelV x u ∧ J.yld i H x H' ∧ tn (i + 1) s2.heap ∧ ∀ b ∈ fp, H' b = none) E s1) E s
  done : ∀ (X : Cx), X.prog = P → X.w = w → X.K = K → X.calm = true → ∀ (i : Nat) (pins : List (Addr × Obj)) (s : Shared) (σ : St) (H : Hp) (E : Value → Shared → Prop), Inv X pins σ H s → (∀ b ∈ fp, FpOk X pins H b) → tn i s.heap → J.stop i H →
    wpAny (model P w) X.A (pyNext (.ref it)) (fun r s1 => r = none ∧ Inv X pins σ H s1) E s
  self : ∀ (A : Around) (i : Nat) (s : Shared) (Q : Value → Shared → Prop) (E : Value → Shared → Prop), tn i s.heap → Q (.ref it) s → wpAny (model P w) A (pyIter (.ref it)) Q E s
abbrev TI := St → Hp → (It → Hp → Prop) → Prop
def PIE (X : Cx) (pins : List (Addr × Obj)) (σ : St) (tg : Expr) (R : It → Hp → Prop) (itv : Value) (s2 : Shared) : Prop :=
  ∃ (it : Addr) (fp : List Addr) (tn : Nat → Heap → Prop) (J : It) (H' : Hp), itv = .ref it ∧ Inv X pins σ H' s2 ∧ Turn X.prog X.w X.K tg J fp it tn ∧ tn 0 s2.heap ∧ (∀ b ∈ fp, FpOk X pins H' b) ∧ R J H'
def PI (X : Cx) (tg iter : Expr) (wi : TI) : Prop :=
  ∀ (pins : List (Addr × Obj)) (s : Shared) (σ : St) (H : Hp) (R : It → Hp → Prop), Inv X pins σ H s → wi σ H R →
    wpAny (model X.prog X.w) X.A (eval iter X.env) (fun v s1 => wpAny (model X.prog X.w) X.A (pyIter v) (PIE X pins σ tg R) X.xe s1) X.xe s
theorem go_of {M : Model} {A : Around} {E : Value → Shared → Prop} {s : Shared} {tg : Expr} {it : Addr} {u : Value} {o : Obj} {n : String} {vs : Array Value} {Q : Unit → Shared → Prop} (ho : s.heap.get? it = some o) (hc : o.cls = .type n) (hd : o.data = .fields vs)
    (hn : ["enumerate", "zip", "dict_itemiterator", "dict_reverseitemiterator", "odict_iterator", "itertools.zip_longest", "itertools.pairwise"].contains n = false) (hQ : Q () s) : wpAny M A (letOwnedTupleGo tg (.ref it) u) Q E s := by
  unfold letOwnedTupleGo
  cases tg <;> first
    | exact wpAny_pure hQ
    | (cases u <;> first
        | exact wpAny_pure hQ
        | (refine wpAny_bind (wpAny_load ho ?_)
           rw [hc, hd]
           show wpAny M A (if (["enumerate", "zip", "dict_itemiterator", "dict_reverseitemiterator", "odict_iterator", "itertools.zip_longest", "itertools.pairwise"].contains n && vs[0]? == some (rawInt _)) = true then _ else _) Q E s
           rw [if_neg (by intro h; rw [hn, Bool.false_and] at h; cases h)]
           exact wpAny_pure hQ))
def Itl (K : PySem.W.Frag) (a : Addr) : It :=
  ⟨fun i H => ∃ xs x, SqL K H a xs ∧ xs[i]? = some x, fun i H x H' => H' = H ∧ ∀ xs, SqL K H a xs → xs[i]? = some x, fun i H => ∃ xs, SqL K H a xs ∧ xs.length ≤ i⟩
def Itt (K : PySem.W.Frag) (a : Addr) : It :=
  ⟨fun i H => ∃ xs x, SqT K H a xs ∧ xs[i]? = some x, fun i H x H' => H' = H ∧ ∀ xs, SqT K H a xs → xs[i]? = some x, fun i H => ∃ xs, SqT K H a xs ∧ xs.length ≤ i⟩
def Itr (lo : Int) (n : Nat) : It := ⟨fun i _ => i < n, fun i H x H' => H' = H ∧ x = .int (lo + i), fun i _ => n ≤ i⟩
theorem turn_list {P : Program} {w : World} {K : PySem.W.Frag} {tg : Expr} (a it : Addr) : Turn P w K tg (Itl K a) [it] it (fun i h => h.IsListIter it a i) where
  mem := by simp
  obj := fun i h st b hb => by
    have e : b = it := by simpa using hb
    subst e
    obtain ⟨o, e, c, d⟩ := st
    exact ⟨o, e, fun v z => by rw [d] at z; cases z⟩
  keep := fun i h h' st k => st.at fun o e => k it (by simp) o e
  item := by
    intro X hP hw hK hc i pins s σ H E I hf st hg
    subst hP hw hK
    obtain ⟨xs, x, hq, hx⟩ := hg
    obtain ⟨its, rv, p, hz⟩ := I.list hq
    obtain ⟨u, hu, ru⟩ := rv.get hx
    obtain ⟨f0, f1, f2, f3, f4, f5⟩ := hf it (by simp)
    refine wpAny_pyNext_list_item st p.isList (x := u) (by simpa using hu) fun h' st' sb => ?_
    have I1 : Inv X pins σ H { s with heap := h' } := I.turned (t' := s.toks) (fun b o hb e => (sb.2 b hb).trans e) f0 f1 f3 f4 f5
    obtain ⟨o, e, c, d⟩ := id st'
    exact ⟨u, rfl, go_of (s := { s with heap := h' }) e c d (by decide) ⟨x, H, I1, ru, ⟨rfl, fun ys hy => by rw [I.list_inj hy hq]; exact hx⟩, st', fun b hb => (hf b hb).1⟩⟩
  done := by
    intro X hP hw hK hc i pins s σ H E I hf st hg
    subst hP hw hK
    obtain ⟨xs, hq, hx⟩ := hg
    obtain ⟨its, rv, p, hz⟩ := I.list hq
    obtain ⟨f0, f1, f2, f3, f4, f5⟩ := hf it (by simp)
    have hl := rv.length
    exact wpAny_pyNext_list_end (I.ok.hd hc) st p.isList (by simp; omega) fun h' eb => ⟨rfl, I.turned (t' := s.toks) (fun b o hb e => eb b o hb e) f0 f1 f3 f4 f5⟩
  self := fun _ _ _ _ _ st h => wpAny_pyIter_listiter st h
theorem turn_tuple {P : Program} {w : World} {K : PySem.W.Frag} {tg : Expr} (a it : Addr) : Turn P w K tg (Itt K a) [it] it (fun i h => h.IsTupleIter it a i) where
  mem := by simp
  obj := fun i h st b hb => by
    have e : b = it := by simpa using hb
    subst e
    obtain ⟨o, e, c, d⟩ := st
    exact ⟨o, e, fun v z => by rw [d] at z; cases z⟩
  keep := fun i h h' st k => st.at fun o e => k it (by simp) o e
  item := by
    intro X hP hw hK hc i pins s σ H E I hf st hg
    subst hP hw hK
    obtain ⟨xs, x, hq, hx⟩ := hg
    obtain ⟨its, rv, p, hz⟩ := I.tuple hq
    obtain ⟨u, hu, ru⟩ := rv.get hx
    obtain ⟨f0, f1, f2, f3, f4, f5⟩ := hf it (by simp)
    refine wpAny_pyNext_tuple_item st (show s.heap.IsTuple a its.toArray from p) (x := u) (by simpa using hu) fun h' st' sb => ?_
    have I1 : Inv X pins σ H { s with heap := h' } := I.turned (t' := s.toks) (fun b o hb e => (sb.2 b hb).trans e) f0 f1 f3 f4 f5
    obtain ⟨o, e, c, d⟩ := id st'
    exact ⟨u, rfl, go_of (s := { s with heap := h' }) e c d (by decide) ⟨x, H, I1, ru, ⟨rfl, fun ys hy => by rw [I.tuple_inj hy hq]; exact hx⟩, st', fun b hb => (hf b hb).1⟩⟩
  done := by
    intro X hP hw hK hc i pins s σ H E I hf st hg
    subst hP hw hK
    obtain ⟨xs, hq, hx⟩ := hg
    obtain ⟨its, rv, p, hz⟩ := I.tuple hq
    obtain ⟨f0, f1, f2, f3, f4, f5⟩ := hf it (by simp)
    have hl := rv.length
    exact wpAny_pyNext_tuple_end (I.ok.hd hc) st (show s.heap.IsTuple a its.toArray from p) (by simp; omega) fun h' eb => ⟨rfl, I.turned (t' := s.toks) (fun b o hb e => eb b o hb e) f0 f1 f3 f4 f5⟩
  self := fun _ _ _ _ _ st h => wpAny_pyIter_tupleiter st h
theorem turn_range {P : Program} {w : World} {K : PySem.W.Frag} {tg : Expr} (it : Addr) (lo : Int) (n : Nat) : Turn P w K tg (Itr lo n) [it] it (fun i h => IsRangeIter h it (lo + (i : Nat) * 1) ((n : Int) - (i : Nat)) 1) where
  mem := by simp
  obj := fun i h st b hb => by
    have e : b = it := by simpa using hb
    subst e
    exact ⟨_, st, fun v z => by
      have z' : Data.fields _ = Data.cell v := z
      cases z'⟩
  keep := fun i h h' st k => k it (by simp) _ st
  item := by
    intro X hP hw hK hc i pins s σ H E I hf st hg
    subst hP hw hK
    obtain ⟨f0, f1, f2, f3, f4, f5⟩ := hf it (by simp)
    have W := Walks.range (prog := X.prog) (w := X.w) (I.ok.hd hc) it lo 1 n
    refine W.item i s _ _ hg st fun v h' tk hv st' kk => ?_
    obtain ⟨t, rfl⟩ := hv
    have I1 : Inv X pins σ H { s with heap := h', toks := tk } := I.turned (fun b o hb e => kk b o (by simpa using hb) e) f0 f1 f3 f4 f5
    refine ⟨_, rfl, go_of (s := { s with heap := h', toks := tk }) (n := "range_iterator") st' rfl rfl (by decide) ⟨.int (lo + i), H, I1, ⟨t, ?_⟩, ⟨rfl, rfl⟩, st', fun b hb => (hf b hb).1⟩⟩
    rw [Int.mul_one]
  done := by
    intro X hP hw hK hc i pins s σ H E I hf st hg
    subst hP hw hK
    obtain ⟨f0, f1, f2, f3, f4, f5⟩ := hf it (by simp)
    exact wpAny_pyNext_range_end (I.ok.hd hc) st (by have : n ≤ i := hg; omega) fun h' eb => ⟨rfl, I.turned (t' := s.toks) (fun b o hb e => eb b o hb e) f0 f1 f3 f4 f5⟩
  self := fun _ _ _ _ _ st h => wpAny_pyIter_rangeiter st h
end L2
namespace L2
open PySem PySem.Spec PyProof.Rows
section
variable {X : Cx} {tg : Expr}
def iList (K : PySem.W.Frag) (tl : TE) : TI := fun σ H R => tl σ H fun x H1 => ∃ a, x = .ref a ∧ (∃ xs, SqL K H1 a xs) ∧ R (Itl K a) H1
def iTup (K : PySem.W.Frag) (tl : TE) : TI := fun σ H R => tl σ H fun x H1 => ∃ a, x = .ref a ∧ (∃ xs, SqT K H1 a xs) ∧ R (Itt K a) H1
theorem pi_list {l : Expr} {tl : TE} (hl : PE X l tl) : PI X tg l (iList X.K tl) := by
  intro pins s σ H R I h
  refine thn (hl pins s σ H _ I h) fun v s1 ⟨x, H1, I1, r1, q1⟩ => ?_
  obtain ⟨a, e, ⟨xs, hq⟩, q⟩ := q1
  subst e
  cases r1
  obtain ⟨its, rv, p, hz⟩ := I1.list hq
  refine wpAny_pyIter_list p.isList ?_
  refine ⟨s1.heap.objs.size, [s1.heap.objs.size], _, _, H1, rfl, I1.kept (t' := s1.toks) fun b o e => Heap.get?_push_of_some _ e, turn_list a _, ⟨_, Heap.get?_push_size _ rfl, rfl, rfl⟩, fun b hb => ?_, q⟩
  have e : b = s1.heap.objs.size := by simpa using hb
  subst e
  exact I1.fpOk (Nat.le_refl _) (I1.hok.fresh (Nat.le_refl _))
theorem pi_tup {l : Expr} {tl : TE} (hl : PE X l tl) : PI X tg l (iTup X.K tl) := by
  intro pins s σ H R I h
  refine thn (hl pins s σ H _ I h) fun v s1 ⟨x, H1, I1, r1, q1⟩ => ?_
  obtain ⟨a, e, ⟨xs, hq⟩, q⟩ := q1
  subst e
  cases r1
  obtain ⟨its, rv, p, hz⟩ := I1.tuple hq
  refine wpAny_pyIter_tuple (show s1.heap.IsTuple a its.toArray from p) ?_
  refine ⟨s1.heap.objs.size, [s1.heap.objs.size], _, _, H1, rfl, I1.kept (t' := s1.toks) fun b o e => Heap.get?_push_of_some _ e, turn_tuple a _, ⟨_, Heap.get?_push_size _ rfl, rfl, rfl⟩, fun b hb => ?_, q⟩
  have e : b = s1.heap.objs.size := by simpa using hb
  subst e
  exact I1.fpOk (Nat.le_refl _) (I1.hok.fresh (Nat.le_refl _))
theorem range_it {pins : List (Addr × Obj)} {σ : St} {H : Hp} {s : Shared} {R : It → Hp → Prop} {E : Value → Shared → Prop} {lo hi : Int} {t u v : Tok} {tk : Nat} (I : Inv X pins σ H s) (h1 : -(2 ^ 62) ≤ lo) (h2 : lo < 2 ^ 62) (h3 : -(2 ^ 62) ≤ hi) (h4 : hi < 2 ^ 62)
    (q : R (Itr lo (hi - lo).toNat) H) : wpAny (model X.prog X.w) X.A (pyIter (.ref s.heap.objs.size)) (PIE X pins σ tg R) E { s with heap := s.heap.push { cls := .type "range", data := .fields #[.int lo t, .int hi u, .int 1 v] }, toks := tk } := by
  refine wpAny_pyIter_range (IsRange.new ..) (small_one h1 h2 h3 h4) ?_
  have I1 : Inv X pins σ H { s with heap := s.heap.push { cls := .type "range", data := .fields #[.int lo t, .int hi u, .int 1 v] }, toks := tk } := I.kept fun b o e => Heap.get?_push_of_some _ e
  refine ⟨(s.heap.push { cls := .type "range", data := .fields #[.int lo t, .int hi u, .int 1 v] }).objs.size, [(s.heap.push { cls := .type "range", data := .fields #[.int lo t, .int hi u, .int 1 v] }).objs.size], _, _, H, rfl,
    I1.kept (t' := tk) fun b o e => Heap.get?_push_of_some _ e, turn_range _ lo (hi - lo).toNat, ?_, fun b hb => ?_, q⟩
  · have e1 : lo + ((0 : Nat) : Int) * 1 = lo := by simp
    have e2 : (((hi - lo).toNat : Nat) : Int) - ((0 : Nat) : Int) = Builtin.Range.rangeSize lo hi 1 := by rw [rangeSize_one]; split <;> omega
    show IsRangeIter _ _ (lo + ((0 : Nat) : Int) * 1) ((((hi - lo).toNat : Nat) : Int) - ((0 : Nat) : Int)) 1
    rw [e1, e2]
    exact Heap.get?_push_size _ rfl
  · have e : b = (s.heap.push { cls := .type "range", data := .fields #[.int lo t, .int hi u, .int 1 v] }).objs.size := by simpa using hb
    subst e
    exact I1.fpOk (Nat.le_refl _) (I1.hok.fresh (Nat.le_refl _))
def iRng1 (ta : TA) : TI := fun σ H R => ta σ H fun vs H1 => ∃ j : Int, vs = [.int j] ∧ -(2 ^ 62) ≤ j ∧ j < 2 ^ 62 ∧ R (Itr 0 j.toNat) H1
theorem pi_range1 {a : Expr} {ta : TA} {p pos : Pos} (hg : Gl X "range") (hm : X.mg "range" = none) (ha : PA X [a] ta) (hs : starEach [a] X.env = [(false, eval a X.env)] := by rfl) : PI X tg (.Call (.Name "range" p) [a] [] pos) (iRng1 ta) := by
  intro pins s σ H R I h
  refine Call_ (ld_blt I hg hm boot_range (PyProof.Rows.callWith_type1 (thn (ha pos pins s σ H _ I h) fun us s1 ⟨vs, H1, I1, r1, q1⟩ => ?_) hs rfl))
  obtain ⟨j, e, q1, q2, q⟩ := q1
  subst e
  cases r1 with
  | cons r rr =>
    cases rr
    obtain ⟨t, rfl⟩ := r
    exact call_range_1 (range_it I1 (by omega) (by omega) q1 q2 (by simpa using q))
def tFor (wi : TI) (g : TG) (tb : TS) : TS := fun D σ H => wi σ H fun J H1 => ∃ W : Nat → Nat → St → Hp → Prop, (∃ m, W 0 m σ H1) ∧ ∀ i m σ H, W i m σ H →
  (J.stop i H ∧ D.nx σ H) ∨ (J.go i H ∧ ∃ N : St → Hp → Prop, (∀ σ' H', N σ' H' → ∃ m', m' < m ∧ W (i + 1) m' σ' H') ∧ ∀ x H', J.yld i H x H' → g x σ H' fun σ2 H2 => tb { D with nx := N, ct := N, bk := D.nx } σ2 H2)
def pinsAt (fp : List Addr) (h : Heap) : List (Addr × Obj) := fp.filterMap fun b => (h.get? b).map fun o => (b, o)
theorem mem_pinsAt {fp : List Addr} {h : Heap} {b : Addr} {o : Obj} (hb : b ∈ fp) (e : h.get? b = some o) : (b, o) ∈ pinsAt fp h := List.mem_filterMap.mpr ⟨b, hb, by rw [e]; rfl⟩
theorem of_pinsAt {fp : List Addr} {h : Heap} {p : Addr × Obj} (hp : p ∈ pinsAt fp h) : p.1 ∈ fp ∧ h.get? p.1 = some p.2 := by
  obtain ⟨b, hb, e⟩ := List.mem_filterMap.mp hp
  cases q : h.get? b with
  | none => rw [q] at e; cases e
  | some o =>
    rw [q] at e
    have e' : (b, o) = p := Option.some.inj e
    subst e'
    exact ⟨hb, q⟩
theorem Inv.pinned {pins : List (Addr × Obj)} {σ : St} {H : Hp} {s : Shared} {fp : List Addr} (I : Inv X pins σ H s) (hf : ∀ b ∈ fp, FpOk X pins H b) (ho : ∀ b ∈ fp, ∃ o, s.heap.get? b = some o ∧ ∀ v, o.data ≠ .cell v) : Inv X (pins ++ pinsAt fp s.heap) σ H s :=
  I.pins_of fun p hp => (List.mem_append.mp hp).elim (fun z => I.pin p (List.mem_append_right _ z)) fun z => by
    obtain ⟨hb, e⟩ := of_pinsAt z
    obtain ⟨f0, f1, f2, _⟩ := hf p.1 hb
    obtain ⟨o, e', d⟩ := ho p.1 hb
    rw [e] at e'; cases e'
    exact ⟨e, f0, f1, f2, d⟩
theorem Inv.unpinned {pins pl : List (Addr × Obj)} {σ : St} {H : Hp} {s : Shared} (I : Inv X (pins ++ pl) σ H s) : Inv X pins σ H s := I.pins_of fun p hp => I.pin p (List.mem_append_right _ (List.mem_append_left _ hp))
theorem ps_for {iter : Expr} {body : List Stmt} {wi : TI} {g : TG} {tb : TS} {pos : Pos} (hp : PassesOwn (model X.prog X.w) X.A X.env X.xe) (hc : X.calm = true) (hi : PI X tg iter wi) (hg : PG X tg g) (hb : PSs X body tb)
    (hs : ∀ x, foldedSetIterable iter X.env x = pure x := by intro _; rfl) : PS X (.For tg iter body [] pos) (tFor wi g tb) := by
  intro pins s σ H D I h
  refine wpAny_For (thn (hi pins s σ H _ I h) fun v s1 h1 => thn h1 fun itv s2 h2 => ?_) hs
  obtain ⟨it, fp, tn, J, H2, e, I2, T, st2, f2, W, ⟨m0, w0⟩, turn⟩ := h2
  subst e
  -- what stays true of the iterator's objects through the loop
  have stat : ∀ {H' : Hp}, (∀ b ∈ fp, H' b = none) → ∀ b ∈ fp, FpOk X pins H' b := fun hn b hb => ⟨hn b hb, (f2 b hb).2⟩
  refine codeAny_forLoop_any (fun n s' => ∃ i σ' H', Inv X pins σ' H' s' ∧ tn i s'.heap ∧ (∀ b ∈ fp, H' b = none) ∧ W i n σ' H') ?_ m0 ⟨0, σ, H2, I2, st2, fun b hb => (f2 b hb).1, w0⟩
  rintro n s3 ⟨i, σ3, H3, I3, st3, fr3, w3⟩
  rcases turn i n σ3 H3 w3 with ⟨stop, qn⟩ | ⟨go, N, hN, step⟩
  · refine wpAny_passesOwn hp (thn (T.done X rfl rfl rfl hc i pins s3 σ3 H3 X.xe I3 (stat fr3) st3 stop) fun r s4 ⟨hr, I4⟩ => ?_)
    subst hr
    exact wpAny_execs_nil ⟨σ3, H3, I4, qn⟩
  · refine wpAny_passesOwn hp (thn (T.item X rfl rfl rfl hc i pins s3 σ3 H3 X.xe I3 (stat fr3) st3 go) fun r s4 ⟨u, hr, h4⟩ => ?_)
    subst hr
    refine wpAny_passesOwn hp (thn h4 fun _ s5 ⟨x, H5, I5, r5, y5, st5, fr5⟩ => ?_)
    have I5' := I5.pinned (stat fr5) (T.obj _ _ st5)
    refine wpAny_passesOwn hp (thn (hg _ s5 σ3 H5 x u _ I5' r5 (step x H5 y5)) fun _ s6 ⟨σ6, H6, I6, q6⟩ => ?_)
    refine wpAny_passesOwn hp (thn (hb _ s6 σ6 H6 _ I6 q6) fun f s7 q7 => ?_)
    have again : ∀ {σ7 : St} {H7 : Hp}, Inv X (pins ++ pinsAt fp s5.heap) σ7 H7 s7 → N σ7 H7 → ∃ m, m < n ∧ ∃ i σ' H', Inv X pins σ' H' s7 ∧ tn i s7.heap ∧ (∀ b ∈ fp, H' b = none) ∧ W i m σ' H' := fun {σ7 H7} I7 n7 => by
      obtain ⟨m', hm, w7⟩ := hN σ7 H7 n7
      refine ⟨m', hm, i + 1, σ7, H7, I7.unpinned, T.keep _ _ _ st5 fun b hb o e => (I7.pin (b, o) (List.mem_append_right _ (List.mem_append_right _ (mem_pinsAt hb e)))).1, fun b hb => ?_, w7⟩
      obtain ⟨o, e, d⟩ := T.obj _ _ st5 b hb
      exact (I7.pin (b, o) (List.mem_append_right _ (List.mem_append_right _ (mem_pinsAt hb e)))).2.1
    cases f with
    | next => obtain ⟨σ7, H7, I7, n7⟩ := q7; exact again I7 n7
    | cont => obtain ⟨σ7, H7, I7, n7⟩ := q7; exact again I7 n7
    | brk => obtain ⟨σ7, H7, I7, q7⟩ := q7; exact ⟨σ7, H7, I7.unpinned, q7⟩
    | ret v => obtain ⟨x7, σ7, H7, I7, r7, q7⟩ := q7; exact ⟨x7, σ7, H7, I7.unpinned, r7, q7⟩
end
theorem for_list {K : PySem.W.Frag} {a : Addr} {xs : List V} {g : TG} {tb : TS} {D : Ends} {σ : St} {H : Hp} (Pv : Nat → St → Hp → Prop) (h0 : Pv 0 σ H) (hl : ∀ i σ H, i ≤ xs.length → Pv i σ H → SqL K H a xs)
    (hs : ∀ i x σ H, xs[i]? = some x → Pv i σ H → g x σ H fun σ2 H2 => tb { D with nx := Pv (i + 1), ct := Pv (i + 1), bk := D.nx } σ2 H2) (hd : ∀ σ H, Pv xs.length σ H → D.nx σ H) :
    ∃ W : Nat → Nat → St → Hp → Prop, (∃ m, W 0 m σ H) ∧ ∀ i m σ H, W i m σ H →
      ((Itl K a).stop i H ∧ D.nx σ H) ∨ ((Itl K a).go i H ∧ ∃ N : St → Hp → Prop, (∀ σ' H', N σ' H' → ∃ m', m' < m ∧ W (i + 1) m' σ' H') ∧ ∀ x H', (Itl K a).yld i H x H' → g x σ H' fun σ2 H2 => tb { D with nx := N, ct := N, bk := D.nx } σ2 H2) := by
  refine ⟨fun i m σ H => m = xs.length - i ∧ i ≤ xs.length ∧ Pv i σ H, ⟨xs.length, by simp, Nat.zero_le _, h0⟩, ?_⟩
  rintro i m σ H ⟨rfl, hi, p⟩
  have q := hl i σ H hi p
  by_cases hlt : i < xs.length
  · refine .inr ⟨⟨xs, xs[i], q, by simp [hlt]⟩, Pv (i + 1), fun σ' H' p' => ⟨xs.length - (i + 1), by omega, rfl, hlt, p'⟩, fun x H' y => ?_⟩
    obtain ⟨e, y⟩ := y
    subst e
    exact hs i x σ _ (y xs q) p
  · have e : i = xs.length := by omega
    subst e
    exact .inl ⟨⟨xs, q, Nat.le_refl _⟩, hd σ H p⟩
theorem for_range {lo : Int} {n : Nat} {g : TG} {tb : TS} {D : Ends} {σ : St} {H : Hp} (Pv : Nat → St → Hp → Prop) (h0 : Pv 0 σ H)
    (hs : ∀ i σ H, i < n → Pv i σ H → g (.int (lo + i)) σ H fun σ2 H2 => tb { D with nx := Pv (i + 1), ct := Pv (i + 1), bk := D.nx } σ2 H2) (hd : ∀ σ H, Pv n σ H → D.nx σ H) :
    ∃ W : Nat → Nat → St → Hp → Prop, (∃ m, W 0 m σ H) ∧ ∀ i m σ H, W i m σ H →
      ((Itr lo n).stop i H ∧ D.nx σ H) ∨ ((Itr lo n).go i H ∧ ∃ N : St → Hp → Prop, (∀ σ' H', N σ' H' → ∃ m', m' < m ∧ W (i + 1) m' σ' H') ∧ ∀ x H', (Itr lo n).yld i H x H' → g x σ H' fun σ2 H2 => tb { D with nx := N, ct := N, bk := D.nx } σ2 H2) := by
  refine ⟨fun i m σ H => m = n - i ∧ i ≤ n ∧ Pv i σ H, ⟨n, by simp, Nat.zero_le _, h0⟩, ?_⟩
  rintro i m σ H ⟨rfl, hi, p⟩
  by_cases hlt : i < n
  · refine .inr ⟨hlt, Pv (i + 1), fun σ' H' p' => ⟨n - (i + 1), by omega, rfl, hlt, p'⟩, fun x H' y => ?_⟩
    obtain ⟨e, y⟩ := y
    subst e y
    exact hs i σ _ hlt p
  · have e : i = n := by omega
    subst e
    exact .inl ⟨Nat.le_refl _, hd σ H p⟩
end L2
namespace L2
open PySem PySem.Spec PyProof.Rows
abbrev R2 := V → V → Hp → VK → Prop
def OpR (X : Cx) (f : Value → Value → Sem Value) (r : R2) : Prop :=
  ∀ (pins : List (Addr × Obj)) (s : Shared) (σ : St) (H : Hp) (x y : V) (v u : Value) (Q : VK), Inv X pins σ H s → RelV x v → RelV y u → r x y H Q →
    wpAny (model X.prog X.w) X.A (f v u) (EP X pins σ Q) X.xe s
def CallR (X : Cx) (f : Value) (r : List V → Hp → VK → Prop) : Prop :=
  ∀ (pins : List (Addr × Obj)) (s : Shared) (σ : St) (H : Hp) (xs : List V) (us : List Value) (Q : VK), Inv X pins σ H s → Vals xs us → r xs H Q →
    wpAny (model X.prog X.w) X.A (call f us) (EP X pins σ Q) X.xe s
def tOp (r : R2) (ta tb : TE) : TE := fun σ H Q => ta σ H fun x H1 => tb σ H1 fun y H2 => r x y H2 Q
def rI (C : Int → Int → Prop) (g : Int → Int → V) : R2 := fun x y H Q => ∃ i j, x = .int i ∧ y = .int j ∧ C i j ∧ Q (g i j) H
def rI0 (g : Int → Int → V) : R2 := fun x y H Q => ∃ i j, x = .int i ∧ y = .int j ∧ Q (g i j) H
section
variable {X : Cx} {a b c : Expr} {ta tb tc : TE} {pos : Pos}
theorem binT (ha : PE X a ta) (hb : PE X b tb) {pins : List (Addr × Obj)} {s : Shared} {σ : St} {H : Hp} {R : V → V → Hp → Prop} (I : Inv X pins σ H s)
    (h : ta σ H fun x H1 => tb σ H1 fun y H2 => R x y H2) {Q : Value → Shared → Prop} {f : Value → Value → Sem Value}
    (hf : ∀ v u s2 x y H2, Inv X pins σ H2 s2 → RelV x v → RelV y u → R x y H2 → wpAny (model X.prog X.w) X.A (f v u) Q X.xe s2) :
    wpAny (model X.prog X.w) X.A (eval a X.env) (fun v s₁ => wpAny (model X.prog X.w) X.A (eval b X.env) (fun u s₂ => wpAny (model X.prog X.w) X.A (f v u) Q X.xe s₂) X.xe s₁) X.xe s := by
  refine thn (ha pins s σ H _ I h) fun v s1 ⟨x, H1, I1, r1, q1⟩ => ?_
  refine thn (hb pins s1 σ H1 _ I1 q1) fun u s2 ⟨y, H2, I2, r2, q2⟩ => ?_
  exact hf v u s2 x y H2 I2 r1 r2 q2
theorem pe_op {op : Operator} {r : R2} (ho : OpR X (binaryOp op) r) (ha : PE X a ta) (hb : PE X b tb) : PE X (.BinOp a op b pos) (tOp r ta tb) := by
  intro pins s σ H Q I h
  exact wpAny_BinOp (binT ha hb I h fun v u s2 x y H2 I2 rx ry q => ho pins s2 σ H2 x y v u Q I2 rx ry q)
theorem opI {f : Value → Value → Sem Value} {C : Int → Int → Prop} {g : Int → Int → Int}
    (rule : ∀ (i j : Int) (t u : Tok) (s : Shared) (Q : Value → Shared → Prop) (E : Value → Shared → Prop), C i j → Q (.int (g i j) s.toks) { s with toks := s.toks + 1 } → wpAny (model X.prog X.w) X.A (f (.int i t) (.int j u)) Q E s) :
    OpR X f (rI C fun i j => .int (g i j)) := by
  intro pins s σ H x y v u Q I rx ry h
  obtain ⟨i, j, rfl, rfl, hc, q⟩ := h
  obtain ⟨t, rfl⟩ := rx
  obtain ⟨t', rfl⟩ := ry
  exact rule i j t t' s _ _ hc ⟨.int (g i j), H, I.tok _, ⟨_, rfl⟩, q⟩
theorem opI0 {f : Value → Value → Sem Value} {g : Int → Int → Int}
    (rule : ∀ (i j : Int) (t u : Tok) (s : Shared) (Q : Value → Shared → Prop) (E : Value → Shared → Prop), Q (.int (g i j) s.toks) { s with toks := s.toks + 1 } → wpAny (model X.prog X.w) X.A (f (.int i t) (.int j u)) Q E s) :
    OpR X f (rI0 fun i j => .int (g i j)) := by
  intro pins s σ H x y v u Q I rx ry h
  obtain ⟨i, j, rfl, rfl, q⟩ := h
  obtain ⟨t, rfl⟩ := rx
  obtain ⟨t', rfl⟩ := ry
  exact rule i j t t' s _ _ ⟨.int (g i j), H, I.tok _, ⟨_, rfl⟩, q⟩
theorem opB0 {f : Value → Value → Sem Value} {g : Int → Int → Bool}
    (rule : ∀ (i j : Int) (t u : Tok) (s : Shared) (Q : Value → Shared → Prop) (E : Value → Shared → Prop), Q (.bool (g i j)) s → wpAny (model X.prog X.w) X.A (f (.int i t) (.int j u)) Q E s) :
    OpR X f (rI0 fun i j => .bl (g i j)) := by
  intro pins s σ H x y v u Q I rx ry h
  obtain ⟨i, j, rfl, rfl, q⟩ := h
  obtain ⟨t, rfl⟩ := rx
  obtain ⟨t', rfl⟩ := ry
  exact rule i j t t' s _ _ ⟨.bl (g i j), H, I, rfl, q⟩
def CDiv (i j : Int) : Prop := 0 < j ∧ j < 1073741824
def CPow (i j : Int) : Prop := 0 ≤ j ∧ j ≤ 1000000 ∧ i.natAbs < 2 ^ 64
def CMul (i j : Int) : Prop := (-(2 ^ 64) < i ∧ i < 2 ^ 64) ∨ (-(2 ^ 64) < j ∧ j < 2 ^ 64)
theorem CMul.ok {i j : Int} (h : CMul i j) : IntMulOk i j := by
  rcases h with ⟨h1, h2⟩ | ⟨h1, h2⟩
  · exact .of_left (intBits_le_64 h1 h2)
  · exact .of_right (intBits_le_64 h1 h2)
theorem op_add : OpR X (binaryOp .Add) (rI0 fun i j => .int (i + j)) := opI0 fun _ _ _ _ _ _ _ q => add_int q
theorem op_sub : OpR X (binaryOp .Sub) (rI0 fun i j => .int (i - j)) := opI0 fun _ _ _ _ _ _ _ q => sub_int q
theorem op_mul : OpR X (binaryOp .Mult) (rI CMul fun i j => .int (i * j)) := opI fun _ _ _ _ _ _ _ hc q => mul_int q hc.ok
theorem op_fdiv : OpR X (binaryOp .FloorDiv) (rI CDiv fun i j => .int (i / j)) := opI fun i j _ _ _ _ _ hc q => by
  have h1 : (0 : Int) < j := hc.1
  have h2 : j < 1073741824 := hc.2
  exact floordiv_int (by omega) (by rw [Int.fdiv_eq_ediv_of_nonneg i (by omega)]; exact q) (.inl (PyProof.noPylong_small (by omega)))
theorem op_mod : OpR X (binaryOp .Mod) (rI (fun _ j => 0 < j) fun i j => .int (i % j)) := opI fun i j _ _ _ _ _ hc q => by
  have h1 : (0 : Int) < j := hc
  exact mod_int' (by omega) (by rw [Int.fmod_eq_emod_of_nonneg i (by omega)]; exact q)
theorem op_pow : OpR X (binaryOp .Pow) (rI CPow fun i j => .int (i ^ j.toNat)) := opI fun _ _ _ _ _ _ _ hc q => pow_int_small hc.1 hc.2.1 hc.2.2 q
end
def scal : V → V → Bool
  | .non, .non => true | .non, .int _ => true | .int _, .non => true | .non, .bl _ => true | .bl _, .non => true | .non, .str _ => true | .str _, .non => true
  | .int _, .int _ => true | .bl _, .bl _ => true | .str _, .str _ => true | .byt _, .byt _ => true
  | .int _, .str _ => true | .str _, .int _ => true | .bl _, .str _ => true | .str _, .bl _ => true
  | _, _ => false
def rEq : R2 := fun x y H Q => scal x y = true ∧ Q (.bl (decide (x = y))) H
def rNe : R2 := fun x y H Q => scal x y = true ∧ Q (.bl (!decide (x = y))) H
theorem dec_int {i j : Int} : decide (V.int i = V.int j) = (i == j) := by
  rw [Bool.eq_iff_iff]
  simp
theorem dec_bl {i j : Bool} : decide (V.bl i = V.bl j) = (i == j) := by
  rw [Bool.eq_iff_iff]
  simp
theorem dec_str {i j : Str} : decide (V.str i = V.str j) = (i == j) := by
  rw [Bool.eq_iff_iff]
  simp
theorem dec_byt {i j : Array UInt8} : decide (V.byt i = V.byt j) = (i.toList == j.toList) := by
  rw [Bool.eq_iff_iff]
  cases i
  cases j
  simp
section
variable {X : Cx} {a b c : Expr} {ta tb tc : TE} {pos : Pos}
theorem fin_bl {pins : List (Addr × Obj)} {σ : St} {H : Hp} {s : Shared} {Q : VK} {k k' : Bool} (I : Inv X pins σ H s) (q : Q (.bl k) H) (e : k = k') : EP X pins σ Q (.bool k') s := by
  subst e
  exact ⟨.bl k, H, I, rfl, q⟩
theorem op_eq : OpR X (compareOp .Eq) rEq := by
  intro pins s σ H x y v u Q I rx ry h
  obtain ⟨hs, q⟩ := h
  cases x with
  | non =>
    cases rx
    cases y with
    | non => cases ry; exact PySem.EqNone.eq_none_none (fin_bl I q (by simp))
    | bl j => cases ry; exact PySem.EqNone.eq_none_bool (fin_bl I q (by simp))
    | int j => obtain ⟨t', rfl⟩ := ry; exact PySem.EqNone.eq_none_int (fin_bl I q (by simp))
    | str j => obtain ⟨t', rfl⟩ := ry; exact PySem.EqNone.eq_none_str (fin_bl I q (by simp))
    | _ => exact absurd (show false = true from hs) Bool.false_ne_true
  | bl i =>
    cases rx
    cases y with
    | non => cases ry; exact PySem.EqNone.eq_bool_none (fin_bl I q (by simp))
    | bl j => cases ry; exact eq_bool (fin_bl I q dec_bl)
    | str j => obtain ⟨t', rfl⟩ := ry; exact PySem.EqMixed.eq_bool_str (fin_bl I q (by simp))
    | _ => exact absurd (show false = true from hs) Bool.false_ne_true
  | int i =>
    obtain ⟨t, rfl⟩ := rx
    cases y with
    | non => cases ry; exact PySem.EqNone.eq_int_none (fin_bl I q (by simp))
    | int j => obtain ⟨t', rfl⟩ := ry; exact eq_int (fin_bl I q dec_int)
    | str j => obtain ⟨t', rfl⟩ := ry; exact PySem.EqMixed.eq_int_str (fin_bl I q (by simp))
    | _ => exact absurd (show false = true from hs) Bool.false_ne_true
  | str i =>
    obtain ⟨t, rfl⟩ := rx
    cases y with
    | non => cases ry; exact PySem.EqNone.eq_str_none (fin_bl I q (by simp))
    | bl j => cases ry; exact PySem.EqMixed.eq_str_bool (fin_bl I q (by simp))
    | int j => obtain ⟨t', rfl⟩ := ry; exact PySem.EqMixed.eq_str_int (fin_bl I q (by simp))
    | str j => obtain ⟨t', rfl⟩ := ry; exact eq_str (fin_bl I q dec_str)
    | _ => exact absurd (show false = true from hs) Bool.false_ne_true
  | byt i =>
    obtain ⟨t, rfl⟩ := rx
    cases y with
    | byt j => obtain ⟨t', rfl⟩ := ry; exact PySem.W.eq_bytes (fin_bl I q dec_byt)
    | _ => exact absurd (show false = true from hs) Bool.false_ne_true
  | _ => cases y <;> exact absurd (show false = true from hs) Bool.false_ne_true
theorem op_ne : OpR X (compareOp .NotEq) rNe := by
  intro pins s σ H x y v u Q I rx ry h
  obtain ⟨hs, q⟩ := h
  cases x with
  | non =>
    cases rx
    cases y with
    | non => cases ry; exact PySem.EqNone.ne_none_none (fin_bl I q (by simp))
    | bl j => cases ry; exact PySem.EqNone.ne_none_bool (fin_bl I q (by simp))
    | int j => obtain ⟨t', rfl⟩ := ry; exact PySem.EqNone.ne_none_int (fin_bl I q (by simp))
    | str j => obtain ⟨t', rfl⟩ := ry; exact PySem.EqNone.ne_none_str (fin_bl I q (by simp))
    | _ => exact absurd (show false = true from hs) Bool.false_ne_true
  | bl i =>
    cases rx
    cases y with
    | non => cases ry; exact PySem.EqNone.ne_bool_none (fin_bl I q (by simp))
    | bl j => cases ry; exact ne_bool (fin_bl I q (congrArg not dec_bl))
    | str j => obtain ⟨t', rfl⟩ := ry; exact PySem.EqMixed.ne_bool_str (fin_bl I q (by simp))
    | _ => exact absurd (show false = true from hs) Bool.false_ne_true
  | int i =>
    obtain ⟨t, rfl⟩ := rx
    cases y with
    | non => cases ry; exact PySem.EqNone.ne_int_none (fin_bl I q (by simp))
    | int j => obtain ⟨t', rfl⟩ := ry; exact ne_int (fin_bl I q (congrArg not dec_int))
    | str j => obtain ⟨t', rfl⟩ := ry; exact PySem.EqMixed.ne_int_str (fin_bl I q (by simp))
    | _ => exact absurd (show false = true from hs) Bool.false_ne_true
  | str i =>
    obtain ⟨t, rfl⟩ := rx
    cases y with
    | non => cases ry; exact PySem.EqNone.ne_str_none (fin_bl I q (by simp))
    | bl j => cases ry; exact PySem.EqMixed.ne_str_bool (fin_bl I q (by simp))
    | int j => obtain ⟨t', rfl⟩ := ry; exact PySem.EqMixed.ne_str_int (fin_bl I q (by simp))
    | str j => obtain ⟨t', rfl⟩ := ry; exact ne_str (fin_bl I q (congrArg not dec_str))
    | _ => exact absurd (show false = true from hs) Bool.false_ne_true
  | byt i =>
    obtain ⟨t, rfl⟩ := rx
    cases y with
    | byt j => obtain ⟨t', rfl⟩ := ry; exact PySem.W.ne_bytes (fin_bl I q (congrArg not dec_byt))
    | _ => exact absurd (show false = true from hs) Bool.false_ne_true
  | _ => cases y <;> exact absurd (show false = true from hs) Bool.false_ne_true
theorem op_lt : OpR X (compareOp .Lt) (rI0 fun i j => .bl (decide (i < j))) := opB0 fun _ _ _ _ _ _ _ q => lt_int q
theorem op_gt : OpR X (compareOp .Gt) (rI0 fun i j => .bl (decide (j < i))) := opB0 fun _ _ _ _ _ _ _ q => gt_int q
theorem op_ge : OpR X (compareOp .GtE) (rI0 fun i j => .bl (decide (j ≤ i))) := opB0 fun _ _ _ _ _ _ _ q => ge_int q
theorem op_isN : OpR X (compareOp .Is) (fun x y H Q => y = .non ∧ Q (.bl (decide (x = .non))) H) := by
  intro pins s σ H x y v u Q I rx ry h
  obtain ⟨rfl, q⟩ := h
  cases ry
  refine is_none_gen (fin_bl I q ?_)
  cases x <;> first
    | (cases rx; rfl)
    | (obtain ⟨t, rfl⟩ := rx; rfl)
theorem nomark (b : Expr) {op : CmpOp} (h : op ≠ .In := by decide) (h2 : op ≠ .NotIn := by decide) : behindInMarks op b = false := by
  have e1 : (op == CmpOp.In) = false := by cases op <;> first | rfl | exact absurd rfl h
  have e2 : (op == CmpOp.NotIn) = false := by cases op <;> first | rfl | exact absurd rfl h2
  cases b <;> simp [behindInMarks, e1, e2]
theorem pe_cmpR {op : CmpOp} {r : R2} (ho : OpR X (compareOp op) r) (ha : PE X a ta) (hb : PE X b tb) (hm : behindInMarks op b = false) : PE X (.Compare a [op] [b] pos) (tOp r ta tb) := by
  intro pins s σ H Q I h
  exact wpAny_Compare1 (binT ha hb I h fun v u s2 x y H2 I2 rx ry q => ho pins s2 σ H2 x y v u Q I2 rx ry q) hm
def tTest (t : TE) : TT := fun σ H Q => t σ H fun x H' => ∃ k, x = .bl k ∧ Q k H'
theorem pt_cmpR {op : CmpOp} {r : R2} (ho : OpR X (compareOp op) r) (ha : PE X a ta) (hb : PE X b tb) (hm : behindInMarks op b = false) : PT X (.Compare a [op] [b] pos) (tTest (tOp r ta tb)) := by
  intro pins s σ H Q I h
  refine wpAny_isTrue_Compare1 (thn (ha pins s σ H _ I h) fun v s1 ⟨x, H1, I1, r1, q1⟩ => thn (hb pins s1 σ H1 _ I1 q1) fun u s2 ⟨y, H2, I2, r2, q2⟩ =>
    thn (ho pins s2 σ H2 x y v u _ I2 r1 r2 q2) fun c s3 ⟨z, H3, I3, r3, k, e, q3⟩ => ?_) hm
  subst e
  cases r3
  exact wpAny_truthy_bool ⟨H3, I3, q3⟩
theorem line63 : (sizeLine : Nat) < 2 ^ 63 := by rw [sizeLine_eq]; decide
theorem vals1 {x : V} {us : List Value} (r : Vals [x] us) : ∃ u, us = [u] ∧ RelV x u := by
  cases r with
  | cons r1 r2 => cases r2; exact ⟨_, rfl, r1⟩
theorem vals2 {x y : V} {us : List Value} (r : Vals [x, y] us) : ∃ u w', us = [u, w'] ∧ RelV x u ∧ RelV y w' := by
  cases r with
  | cons r1 r2 =>
    cases r2 with
    | cons r3 r4 => cases r4; exact ⟨_, _, rfl, r1, r3⟩
theorem call_abs : CallR X (.builtin "abs") (fun xs H Q => ∃ i, xs = [.int i] ∧ Q (.int (if i < 0 then -i else i)) H) := by
  intro pins s σ H xs us Q I r h
  obtain ⟨i, rfl, q⟩ := h
  obtain ⟨u, rfl, t, rfl⟩ := vals1 r
  exact call_abs_int fun u tk => ⟨.int (if i < 0 then -i else i), H, I.tok _, ⟨_, rfl⟩, q⟩
end
end L2
namespace L2
open PySem PySem.Spec PyProof.Rows
structure ObjM (h : Heap) (x dx C : Addr) (mA : Str → Option Value) : Prop where
  obj : h.get? x = some (PySem.W.instObj C dx)
  ns : h.Ns1 dx mA
  ne : dx ≠ x
theorem lookIn_ns {h : Heap} {dx : Addr} {mA : Str → Option Value} (n : h.Ns1 dx mA) : ∃ od, h.get? dx = some od ∧ ∀ name, PySem.W.lookIn name od = some (mA name) := by
  obtain ⟨o, es, ep, ho, hd, hk, _, hm⟩ := n
  refine ⟨o, ho, fun name => ?_⟩
  have e := hm name
  unfold nsFind findBy at e
  rw [← Array.find?_toList] at e
  unfold PySem.W.lookIn
  rw [hd]
  dsimp only
  split
  · rename_i y q
    rw [q] at e
    exact congrArg some e
  · rename_i q
    rw [q] at e
    have a : es.toList.any (·.refKey) = false := by
      rw [List.any_eq_false]
      intro y hy
      obtain ⟨z, t, hkey⟩ := hk y (Array.mem_toList_iff.mp hy)
      simp [DictEntry.refKey, hkey]
    have a' : ¬ es.toList.any (·.refKey) = true := by rw [a]; exact Bool.false_ne_true
    rw [if_neg a']
    exact congrArg some e
theorem ObjM.look {h : Heap} {x dx C : Addr} {mA : Str → Option Value} (I : ObjM h x dx C mA) : ∃ od, PySem.W.InstAt h x (PySem.W.instObj C dx) C (some od) ∧ ∀ name, PySem.W.lookIn name od = some (mA name) :=
  let ⟨od, ho, hl⟩ := lookIn_ns I.ns
  ⟨od, ⟨I.obj, rfl, rfl, ho⟩, hl⟩
section
variable {prog : Program} {w : World} {A : Around} {E : Value → Shared → Prop} {s : Shared} {K : PySem.W.Frag} {x dx C f : Addr} {mA : Str → Option Value} {name : Str} {v : Value}
theorem get_map {expr : Bool} {Q : Value → Shared → Prop} (X : K.In s.heap) (I : ObjM s.heap x dx C mA) (hg : PySem.W.plainGet K C name = true) (hh : PySem.W.hasDictIn K C = true)
    (ha : PySem.W.findIn K (.ref C) name = some none) (hv : mA name = some v) (hv' : PySem.W.handedIn v = true) (h : Q v { s with toks := s.toks + 1 }) :
    wpAny (model prog w) A (getAttr (.ref x) name expr) Q E s := by
  obtain ⟨od, J, hl⟩ := I.look
  exact PySem.W.get_value X J (PySem.W.plainGet_of hg).1 (PySem.W.findObj_own hh ha rfl (by rw [hl, hv])) hv' h
theorem get_meth {pl : Sem Bool} {Q : Value × List Value → Shared → Prop} (X : K.In s.heap) (I : ObjM s.heap x dx C mA) (hg : PySem.W.plainGet K C name = true)
    (hf : PySem.W.findIn K (.ref C) name = some (some (.ref f))) (ht : PySem.W.isFn K (.ref f) = true) (hv : mA name = none) (h : Q (.ref f, [.ref x]) s) :
    wpAny (model prog w) A (getMethod (.ref x) name pl) Q E s := by
  obtain ⟨od, J, hl⟩ := I.look
  exact PySem.W.method_fn X J (PySem.W.plainGet_of hg).1 (PySem.W.plainGet_of hg).2 hf (beq_iff_eq.mp ht) (by show (PySem.W.lookIn name od).map (·.isSome) = some false; rw [hl, hv]; rfl) h
theorem set_map {ns : List Str} {Q : Unit → Shared → Prop} (X : K.In s.heap) (I : ObjM s.heap x dx C mA)
    (hs : PySem.W.findIn K (.ref C) "__setattr__" = some (some (.builtin "object.__setattr__"))) (hp : PySem.W.plainOver K C = true) (ht : PySem.W.takerIn K C name = some none) (hh : PySem.W.hasDictIn K C = true)
    (hw : PySem.Within mA ns) (hsz : ns.length ≤ sizeLine)
    (h : ∀ h', ObjM h' x dx C (fun y => if y = name then some v else mA y) → Heap.SameBut dx s.heap h' → Q () { s with heap := h', toks := s.toks + 2 }) :
    wpAny (model prog w) A (setAttr (.ref x) name v) Q E s := by
  obtain ⟨od, J, hl⟩ := I.look
  refine PySem.W.set_plain X J hs (PySem.W.osa_open (s := { s with toks := s.toks + 1 }) (r := none) X J hp ht fun b => ?_)
  obtain ⟨cd, hc, hd'⟩ := PySem.W.any_some hh
  have hx : s.heap.get? x = some ⟨.ref C, some dx, .plain, #[]⟩ := I.obj
  refine wpAny_bind (wpAny_pure (wpAny_bind (wpAny_bind (wpAny_loadPart hx (wpAny_bind (PySem.W.Looks.here (s := { s with toks := s.toks + 1 }) (PySem.W.looks_clsIn X hc) ?_))))))
  rw [hd']
  refine wpAny_pure (a := some dx) (wpAny_bind (wpAny_pure (wpAny_bind ?_)))
  refine wpAny_nsSet1 (s := { s with toks := s.toks + 1 }) I.ns fun h' hn2 hs2 => ?_
  obtain ⟨oD, esD, epD, hoD, hdD, hcD⟩ := hn2.count (PySem.Within.cons name v hw)
  refine wpAny_bind (wpAny_lookBehind hoD (by rw [hdD]; exact pastItsLine_dict (Nat.le_trans hcD (by rw [List.length_cons]; omega))) ?_)
  exact wpAny_pure (h _ ⟨(hs2.2 _ (Ne.symm I.ne)).trans I.obj, hn2, I.ne⟩ hs2)
theorem make_map {R : Result → Shared → Prop} {vs : List Value} {kw : List (Str × Value)} (X : K.In s.heap) (hm : PySem.W.makesIn K C = true)
    (hi : PySem.W.findIn K (.ref C) "__init__" = some (some (.ref f))) (hf : PySem.W.typeIn K (.ref f) = some (.type "function"))
    (h : codeAny (model prog w) (A.under (.builtin "type.__call__" ⟨.ref C :: vs, kw⟩)) (.call (.ref f) ⟨.ref (s.heap.objs.size + 1) :: vs, kw⟩) (PySem.W.InitBack (s.heap.objs.size + 1) R)
      { s with heap := (s.heap.push PySem.W.emptyDict).push (PySem.W.instObj C s.heap.objs.size) }) :
    codeAny (model prog w) A (.call (.ref C) ⟨vs, kw⟩) R s := by
  obtain ⟨hh, g, d, t, os⟩ := s
  exact PySem.W.make_core (PySem.W.makes_of X hm) (PySem.W.looks_findIn X hi) (fun self => PySem.W.bind_fn X self hf) (.inl rfl) h
end
def putF (f : Str) (v : V) : List (Str × V) → List (Str × V)
  | [] => [(f, v)]
  | (g, x) :: r => if g = f then (g, v) :: r else (g, x) :: putF f v r
theorem lookup_putF (f g : Str) (v : V) : ∀ fs : List (Str × V), (putF f v fs).lookup g = if g = f then some v else fs.lookup g
  | [] => by
    show List.lookup g [(f, v)] = _
    by_cases h : g = f
    · have hb : (g == f) = true := beq_iff_eq.mpr h
      simp only [List.lookup, hb, if_pos h]
    · have hb : (g == f) = false := beq_eq_false_iff_ne.mpr h
      simp only [List.lookup, hb, if_neg h]
  | (k, x) :: r => by
    have ih := lookup_putF f g v r
    rw [show putF f v ((k, x) :: r) = (if k = f then (k, v) :: r else (k, x) :: putF f v r) from rfl]
    by_cases hk : k = f
    · rw [if_pos hk]
      by_cases h : g = k
      · have hb : (g == k) = true := beq_iff_eq.mpr h
        simp only [List.lookup, hb, if_pos (h.trans hk)]
      · have hb : (g == k) = false := beq_eq_false_iff_ne.mpr h
        simp only [List.lookup, hb, if_neg (fun e : g = f => h (e.trans hk.symm))]
    · rw [if_neg hk]
      by_cases h : g = k
      · have hb : (g == k) = true := beq_iff_eq.mpr h
        simp only [List.lookup, hb, if_neg (fun e : g = f => hk (h.symm.trans e))]
      · have hb : (g == k) = false := beq_eq_false_iff_ne.mpr h
        simp only [List.lookup, hb]
        exact ih
theorem keys_putF (f : Str) (v : V) : ∀ fs : List (Str × V), f ∈ (putF f v fs).map (·.1) ∧ ∀ g, g ∈ fs.map (·.1) → g ∈ (putF f v fs).map (·.1)
  | [] => ⟨by simp [putF], fun g h => by simp at h⟩
  | (k, x) :: r => by
    obtain ⟨i1, i2⟩ := keys_putF f v r
    rw [show putF f v ((k, x) :: r) = (if k = f then (k, v) :: r else (k, x) :: putF f v r) from rfl]
    by_cases hk : k = f
    · rw [if_pos hk]
      subst hk
      exact ⟨by simp, fun g h => by simpa using h⟩
    · rw [if_neg hk]
      refine ⟨?_, fun g h => ?_⟩
      · rw [List.map_cons]
        exact List.mem_cons_of_mem _ i1
      · rw [List.map_cons] at h ⊢
        rcases List.mem_cons.mp h with e | e
        · exact List.mem_cons.mpr (.inl e)
        · exact List.mem_cons_of_mem _ (i2 g e)
theorem length_putF (f : Str) (v : V) : ∀ fs : List (Str × V), (putF f v fs).length ≤ fs.length + 1
  | [] => by simp [putF]
  | (k, x) :: r => by
    have ih := length_putF f v r
    rw [show putF f v ((k, x) :: r) = (if k = f then (k, v) :: r else (k, x) :: putF f v r) from rfl]
    by_cases hk : k = f
    · rw [if_pos hk, List.length_cons, List.length_cons]; omega
    · rw [if_neg hk, List.length_cons, List.length_cons]; omega
theorem RelO.some_of {v : V} {o : Option Value} (r : RelO (some v) o) : ∃ u, o = some u ∧ RelV v u := by
  cases o with
  | none => exact (show False from r).elim
  | some u => exact ⟨u, rfl, r⟩
theorem RelO.none_of {o : Option Value} (r : RelO none o) : o = none := by
  cases o with
  | none => rfl
  | some u => exact (show False from r).elim
theorem handed_of {v : V} {u : Value} (r : RelV v u) : PySem.W.handedIn u = true := by
  cases v with
  | non => cases (show u = Value.none from r); rfl
  | bl b => cases (show u = Value.bool b from r); rfl
  | int i => obtain ⟨t, e⟩ := (show ∃ t, u = Value.int i t from r); cases e; rfl
  | str x => obtain ⟨t, e⟩ := (show ∃ t, u = Value.str x t from r); cases e; rfl
  | byt b => obtain ⟨t, e⟩ := (show ∃ t, u = Value.bytes b t from r); cases e; rfl
  | flt b => obtain ⟨t, e⟩ := (show ∃ t, u = Value.float b t from r); cases e; rfl
  | ref a => cases (show u = Value.ref a from r); rfl
  | ty n => cases (show u = Value.type n from r); rfl
section
variable {P : Program} {w : World} {H H' : Hp} {h h' : Heap} {a C dx : Addr} {fs fs' : List (Str × V)}
theorem ins_get (hok : HOk P w H h) (e : H a = some (.ins C dx fs)) : ∃ mA, ObjM h a dx C mA ∧ (∀ f, RelO (fs.lookup f) (mA f)) ∧ PySem.Within mA (fs.map (·.1)) ∧ fs.length ≤ 1000 ∧ H dx = some (.own a) := by
  obtain ⟨d, z, ne, ob, mA, n, r, q⟩ := (show ObjOk P w H h a (.ins C dx fs) from hok a _ e)
  exact ⟨mA, ⟨ob, n, ne⟩, r, q, z, d⟩
end
structure Cls (K : PySem.W.Frag) (C : Addr) : Prop where
  pg : PySem.W.plainGet K C Str.empty = true
  hd : PySem.W.hasDictIn K C = true
  po : PySem.W.plainOver K C = true
  sa : PySem.W.findIn K (.ref C) "__setattr__" = some (some (.builtin "object.__setattr__"))
theorem Cls.get {K : PySem.W.Frag} {C : Addr} (c : Cls K C) (f : Str) : PySem.W.plainGet K C f = true := c.pg
def NoAttr (K : PySem.W.Frag) (C : Addr) (f : Str) : Prop := PySem.W.findIn K (.ref C) f = some none
theorem NoAttr.taker {K : PySem.W.Frag} {C : Addr} {f : Str} (n : NoAttr K C f) : PySem.W.takerIn K C f = some none := by
  unfold PySem.W.takerIn
  rw [show PySem.W.findIn K (.ref C) f = some none from n]
  rfl
structure Meth (K : PySem.W.Frag) (C : Addr) (m : Str) (f : Addr) : Prop where
  at_ : PySem.W.findIn K (.ref C) m = some (some (.ref f))
  fn : PySem.W.isFn K (.ref f) = true
  kp : PySem.W.keepIn K (.ref f) = true
section
variable {X : Cx} {pins : List (Addr × Obj)} {σ : St} {H : Hp} {s : Shared} {a C dx : Addr} {fs : List (Str × V)} {f : Str} {v : V} {A : Around} {E : Value → Shared → Prop}
theorem getattr_ok {b : Bool} {Q : Value → Shared → Prop} (I : Inv X pins σ H s) (e : H a = some (.ins C dx fs)) (c : Cls X.K C) (n : NoAttr X.K C f) (l : fs.lookup f = some v)
    (h : ∀ u s', Inv X pins σ H s' → RelV v u → Q u s') : wpAny (model X.prog X.w) A (getAttr (.ref a) f b) Q E s := by
  obtain ⟨mA, O, r, _, _, _⟩ := ins_get I.hok e
  obtain ⟨u, hu, ru⟩ := RelO.some_of (v := v) (o := mA f) (by rw [← l]; exact r f)
  exact get_map I.kIn O (c.get f) c.hd n hu (handed_of ru) (h u _ (I.tok _) ru)
theorem getmeth_ok {m : Str} {g : Addr} {pl : Sem Bool} {Q : Value × List Value → Shared → Prop} (I : Inv X pins σ H s) (e : H a = some (.ins C dx fs)) (c : Cls X.K C) (k : Meth X.K C m g) (l : fs.lookup m = none)
    (h : Q (.ref g, [.ref a]) s) : wpAny (model X.prog X.w) A (getMethod (.ref a) m pl) Q E s := by
  obtain ⟨mA, O, r, _, _, _⟩ := ins_get I.hok e
  have hn : mA m = none := RelO.none_of (by rw [← l]; exact r m)
  exact get_meth I.kIn O (c.get m) k.at_ k.fn hn h
theorem setattr_ok {y : V} {u : Value} {Q : Unit → Shared → Prop} (I : Inv X pins σ H s) (e : H a = some (.ins C dx fs)) (c : Cls X.K C) (n : NoAttr X.K C f) (hl : fs.length < 1000) (ry : RelV y u)
    (h : ∀ s', Inv X pins σ (upd H a (.ins C dx (putF f y fs))) s' → Q () s') : wpAny (model X.prog X.w) A (setAttr (.ref a) f u) Q E s := by
  obtain ⟨mA, O, r, wi, _, ho⟩ := ins_get I.hok e
  have hz : (fs.map (·.1)).length ≤ sizeLine := by rw [List.length_map, sizeLine_eq]; omega
  refine set_map I.kIn O c.sa c.po n.taker c.hd wi hz fun h' O' sb => h _ ?_
  have hd : ∃ o, h'.get? dx = some o := let ⟨o, _, _, e', _⟩ := O'.ns; ⟨o, e'⟩
  refine I.write (x := a) (e := dx) (by rw [e]; exact True.intro) (.inr ho) (fun b q hb z => (sb.2 b hb).trans z) hd ?_
  refine ⟨by rw [upd_ne O.ne]; exact ho, ?_, O.ne, O'.obj, _, O'.ns, fun g => ?_, fun g hg => ?_⟩
  · have := length_putF f y fs; omega
  · show RelO ((putF f y fs).lookup g) (if g = f then some u else mA g)
    rw [lookup_putF]
    by_cases q : g = f
    · rw [if_pos q, if_pos q]; exact ry
    · rw [if_neg q, if_neg q]; exact r g
  · by_cases q : g = f
    · rw [q]; exact (keys_putF f y fs).1
    · refine (keys_putF f y fs).2 g (wi g fun z => hg ?_)
      show (if g = f then some u else mA g) = none
      rw [if_neg q]; exact z
theorem Inv.made (I : Inv X pins σ H s) : Inv X pins σ (upd (upd H s.heap.objs.size (.own (s.heap.objs.size + 1))) (s.heap.objs.size + 1) (.ins C s.heap.objs.size []))
    { s with heap := (s.heap.push PySem.W.emptyDict).push (PySem.W.instObj C s.heap.objs.size) } := by
  have e1 : (s.heap.push PySem.W.emptyDict).get? s.heap.objs.size = some PySem.W.emptyDict := Heap.get?_push_size s.heap rfl
  have e2 : ((s.heap.push PySem.W.emptyDict).push (PySem.W.instObj C s.heap.objs.size)).get? (s.heap.objs.size + 1) = some (PySem.W.instObj C s.heap.objs.size) := by
    have := Heap.get?_push_size (s.heap.push PySem.W.emptyDict) (o := PySem.W.instObj C s.heap.objs.size) rfl
    rwa [Heap.size_push] at this
  have e3 : (s.heap.push PySem.W.emptyDict).Ns s.heap.objs.size (fun _ => none) := ⟨PySem.W.emptyDict, #[], _, e1, rfl, (fun e he => absurd he (by simp)), fun _ => rfl⟩
  have I1 := I.laid (a := s.heap.objs.size) (o := .own (s.heap.objs.size + 1)) (h' := s.heap.push PySem.W.emptyDict) (t' := s.toks) (fun b u q => Heap.get?_push_of_some _ q) (Nat.le_refl _) ⟨_, e1⟩
  refine I1.laid (a := s.heap.objs.size + 1) (o := .ins C s.heap.objs.size []) (t' := s.toks) (fun b u q => Heap.get?_push_of_some _ q) (Nat.le_of_eq (Heap.size_push _ _)) ?_
  have ne : s.heap.objs.size ≠ s.heap.objs.size + 1 := Nat.ne_of_lt (Nat.lt_succ_self _)
  refine ⟨by rw [upd_ne ne, upd_same], Nat.zero_le _, ne, e2, fun _ => none, (Heap.Ns1.of_empty e3).at fun o q => Heap.get?_push_of_some _ q, fun _ => True.intro, fun y hy => absurd rfl hy⟩
theorem attr_of {prog : Program} {w : World} {env : Env} {e : Expr} {f : Str} {pos : Pos} {s : Shared} {Q : Value → Shared → Prop} (hb : attributeBase e f env (eval e env) = eval e env)
    (h : wpAny (model prog w) A (eval e env) (fun o s₁ => wpAny (model prog w) A (getAttr o f true) Q E s₁) E s) : wpAny (model prog w) A (eval (.Attribute e f pos) env) Q E s :=
  Attribute_any_ h (by rw [arm_eval_Attribute, hb])
end
def tFld (K : PySem.W.Frag) (ta : TE) (f : Str) : TE := fun σ H Q => ta σ H fun x H1 => ∃ a C dx fs v, x = .ref a ∧ H1 a = some (.ins C dx fs) ∧ Cls K C ∧ NoAttr K C f ∧ fs.lookup f = some v ∧ Q v H1
def sFld (K : PySem.W.Frag) (ta tv : TE) (f : Str) : TS := fun D σ H => tv σ H fun y H1 => ta σ H1 fun x H2 => ∃ a C dx fs, x = .ref a ∧ H2 a = some (.ins C dx fs) ∧ Cls K C ∧ NoAttr K C f ∧ fs.length < 1000 ∧
  D.nx σ (upd H2 a (.ins C dx (putF f y fs)))
section
variable {X : Cx} {o e value : Expr} {f : Str} {pos pos' tpos : Pos} {ta tv : TE}
theorem pe_fld (he : PE X e ta) (hb : attributeBase e f X.env (eval e X.env) = eval e X.env) : PE X (.Attribute e f pos) (tFld X.K ta f) := by
  intro pins s σ H Q I h
  refine attr_of hb (thn (he pins s σ H _ I h) fun u s1 ⟨x, H1, I1, rx, a, C, dx, fs, v, ex, ea, c, n, l, q⟩ => ?_)
  subst ex
  obtain rfl : u = Value.ref a := rx
  exact getattr_ok I1 ea c n l fun u' s2 I2 ru => ⟨v, H1, I2, ru, q⟩
theorem ps_fld (ha : PE X o ta) (hv : PE X value tv) (hs : swapsWith value (some (.Attribute o f pos')) pos.line X.env = pure false) : PS X (.Assign [.Attribute o f pos'] value pos) (sFld X.K ta tv f) := by
  intro pins s σ H D I h
  refine plainObj_wpAny_Assign_Attribute (thn (hv pins s σ H _ I h) fun u s1 ⟨y, H1, I1, ry, q⟩ => thn (ha pins s1 σ H1 _ I1 q) fun ov s2 ⟨x, H2, I2, rx, a, C, dx, fs, ex, ea, c, n, l, q2⟩ => ?_) hs
  subst ex
  obtain rfl : ov = Value.ref a := rx
  exact setattr_ok I2 ea c n l ry fun s3 I3 => ⟨σ, _, I3, q2⟩
end
section
variable {X : Cx} {pins : List (Addr × Obj)} {σ : St} {H : Hp} {s : Shared} {A : Around} {E : Value → Shared → Prop} {Q : Value → Shared → Prop} {c : Value} {b : Bool}
inductive TyOf (K : PySem.W.Frag) (H : Hp) : V → Value → Prop where
  | non : TyOf K H .non (.type "NoneType")
  | bl (x : Bool) : TyOf K H (.bl x) (.type "bool")
  | int (i : Int) : TyOf K H (.int i) (.type "int")
  | str (x : Str) : TyOf K H (.str x) (.type "str")
  | flt (x : UInt64) : TyOf K H (.flt x) (.type "float")
  | lst {a : Addr} {xs : List V} (e : H a = some (.lst xs)) : TyOf K H (.ref a) (.type "list")
  | frz {a : Addr} {o : Obj} {xs : List V} (e : H a = some (.frz o (.lst xs))) : TyOf K H (.ref a) (.type "list")
  | tup {a : Addr} {xs : List V} (e : H a = some (.tup xs)) : TyOf K H (.ref a) (.type "tuple")
  | dK {a : Addr} {kvs : List (Key × V)} (e : H a = some (.dK kvs)) : TyOf K H (.ref a) (.type "dict")
  | dT {a : Addr} {kvs : List (List Key × V)} (e : H a = some (.dT kvs)) : TyOf K H (.ref a) (.type "dict")
  | ins {a C dx : Addr} {fs : List (Str × V)} (e : H a = some (.ins C dx fs)) (cl : Cls K C) (ha : PySem.W.findIn K (.ref C) "__class__" = some (some (.builtin "object.__class__")))
      (hn : PySem.W.specialIn K (.builtin "object.__class__") "__get__" = some (some (.builtin "getset_descriptor.__get__"))) (htk : PySem.W.takesIn K (.builtin "object.__class__") = some true)
      (hm : PySem.W.mroIn K C (.type "object") = some true) : TyOf K H (.ref a) (.ref C)
theorem isinst_ok {x : V} {u t : Value} (I : Inv X pins σ H s) (rx : RelV x u) (ty : TyOf X.K H x t) (e : PySem.W.kitOne X.K t c = some b) (h : ∀ tk, Q (.bool b) { s with toks := tk }) :
    wpAny (model X.prog X.w) A (call (.builtin "isinstance") [u, c]) Q E s := by
  cases ty with
  | non => cases (show u = Value.none from rx); exact PySem.W.kia_one PySem.W.kitx_none I.kIn True.intro e (fun z => nomatch z) h
  | bl y => cases (show u = Value.bool y from rx); exact PySem.W.kia_one PySem.W.kitx_bool I.kIn True.intro e (fun z => nomatch z) h
  | int i => obtain ⟨t, q⟩ := (show ∃ t, u = Value.int i t from rx); cases q; exact PySem.W.kia_one PySem.W.kitx_int I.kIn True.intro e (fun z => nomatch z) h
  | str y => obtain ⟨t, q⟩ := (show ∃ t, u = Value.str y t from rx); cases q; exact PySem.W.kia_one PySem.W.kitx_str I.kIn True.intro e (fun z => nomatch z) h
  | flt y => obtain ⟨t, q⟩ := (show ∃ t, u = Value.float y t from rx); cases q; exact PySem.W.kia_one PySem.W.kitx_float I.kIn True.intro e (fun z => nomatch z) h
  | @lst a xs ea =>
    cases (show u = Value.ref a from rx)
    obtain ⟨_, _, n, _, h1⟩ := (show ObjOk X.prog X.w H s.heap a (.lst xs) from I.hok a _ ea)
    exact PySem.W.kia_one PySem.W.kitx_list I.kIn ⟨_, h1, rfl⟩ e (fun z => nomatch z) h
  | @frz a ob xs ea =>
    cases (show u = Value.ref a from rx)
    obtain ⟨_, _, _, n, _, h1⟩ := (show ObjOk X.prog X.w H s.heap a (.frz ob (.lst xs)) from I.hok a _ ea)
    exact PySem.W.kia_one PySem.W.kitx_list I.kIn ⟨_, h1, rfl⟩ e (fun z => nomatch z) h
  | @tup a xs ea =>
    cases (show u = Value.ref a from rx)
    obtain ⟨_, _, _, p⟩ := (show ObjOk X.prog X.w H s.heap a (.tup xs) from I.hok a _ ea)
    obtain ⟨o, h1, h2, _⟩ := p
    exact PySem.W.kia_one PySem.W.kitx_tuple I.kIn ⟨o, h1, h2⟩ e (fun z => nomatch z) h
  | @dK a kvs ea =>
    cases (show u = Value.ref a from rx)
    obtain ⟨_, _, vs, _, p⟩ := (show ObjOk X.prog X.w H s.heap a (.dK kvs) from I.hok a _ ea)
    obtain ⟨o, es, ep, h1, h2, _⟩ := p
    exact PySem.W.kia_one PySem.W.kitx_dict I.kIn ⟨o, h1, h2.1⟩ e (fun z => nomatch z) h
  | @dT a kvs ea =>
    cases (show u = Value.ref a from rx)
    obtain ⟨_, _, xs, _, o, es, ep, h1, h2, _⟩ := (show ObjOk X.prog X.w H s.heap a (.dT kvs) from I.hok a _ ea)
    exact PySem.W.kia_one PySem.W.kitx_dict I.kIn ⟨o, h1, h2.1⟩ e (fun z => nomatch z) h
  | @ins a C dx fs ea cl ha hn htk hm =>
    cases (show u = Value.ref a from rx)
    obtain ⟨mA, O, _⟩ := ins_get I.hok ea
    obtain ⟨od, J, _⟩ := O.look
    exact PySem.W.kia_one (PySem.W.kitx_own (cl.get _) cl.hd ha hn htk hm) I.kIn J e (fun z => nomatch z) h
end
end L2
namespace L2
open PySem PySem.Spec PyProof.Rows
structure Room (k : Nat) (A : Around) : Prop where
  hd : A.handled = none
  dp : A.depth + 3 * k + 5 < recursionLimit
  un : A.units + 16 * k + 200 < cLine
theorem make_depth {A : Around} {C : Addr} {us : List Value} {kw : List (Str × Value)} : (A.under (.builtin "type.__call__" ⟨.ref C :: us, kw⟩)).depth = A.depth + 1 := by
  first | rfl | simp [Around.under, Code.weight, Code.isCreation, Code.isGuard, Code.isCaller, Code.frames, Code.isFrame, guardIds]
theorem make_units {A : Around} {C : Addr} {us : List Value} {kw : List (Str × Value)} : (A.under (.builtin "type.__call__" ⟨.ref C :: us, kw⟩)).units = A.units + 1 := by
  first | rfl | simp [Around.under, Code.cUnits, Code.frames, Code.isFrame]
theorem Room.make {k : Nat} {A : Around} (r : Room (k + 1) A) (C : Addr) (us : List Value) (kw : List (Str × Value)) : Room k (A.under (.builtin "type.__call__" ⟨.ref C :: us, kw⟩)) :=
  ⟨r.hd, by have := r.dp; rw [make_depth]; omega, by have := r.un; rw [make_units]; omega⟩
def tNil : TA := fun _ H Q => Q [] H
def tCons (ta : TE) (tr : TA) : TA := fun σ H Q => ta σ H fun x H1 => tr σ H1 fun xs H2 => Q (x :: xs) H2
section
variable {X : Cx} {e : Expr} {es : List Expr} {te : TE} {t : TA} {pos : Pos}
theorem pa_nil : PA X [] tNil := fun _ _ _ _ H Q I h => Calls.spliced_nil ⟨[], H, I, .nil, h⟩
theorem pa_cons (ha : PE X e te) (hr : PA X es t) (hs : starEach (e :: es) X.env = (false, eval e X.env) :: starEach es X.env := by rfl) : PA X (e :: es) (tCons te t) := by
  intro pos pins s σ H Q I h
  rw [hs]
  show wpAny _ _ (spliced ((false, eval e X.env) :: backTo pos (starEach es X.env))) _ _ s
  refine Calls.spliced_cons (thn (ha pins s σ H _ I h) fun u s1 ⟨x, H1, I1, r1, q1⟩ => ?_)
  exact thn (hr pos pins s1 σ H1 _ I1 q1) fun us s2 ⟨xs, H2, I2, r2, q2⟩ => ⟨x :: xs, H2, I2, .cons r1 r2, q2⟩
def tTup (t : TA) : TE := fun σ H Q => t σ H fun xs H1 => xs.length ≤ sizeLine ∧ ∀ p, H1 p = none → Q (.ref p) (upd H1 p (.tup xs))
def tLst (t : TA) : TE := fun σ H Q => t σ H fun xs H1 => xs.length ≤ sizeLine ∧ ∀ p, H1 p = none → Q (.ref p) (upd H1 p (.lst xs))
theorem pe_tup {x1} (h : PA X es t) : PE X (.Tuple es x1 pos) (tTup t) := by
  intro pins s σ H Q I hq
  refine wpAny_Tuple_spliced (thn (h pos pins s σ H _ I hq) fun us s1 ⟨xs, H1, I1, r, z, q⟩ => ⟨by rw [← r.length]; exact z, ?_⟩)
  have hf : H1 s1.heap.objs.size = none := I1.hok.fresh (Nat.le_refl _)
  refine ⟨.ref s1.heap.objs.size, upd H1 s1.heap.objs.size (.tup xs), I1.laid (t' := s1.toks) (fun b u e => Heap.get?_push_of_some _ e) (Nat.le_refl _) ?_, rfl, q _ hf⟩
  exact ⟨z, us, r, ⟨_, Heap.get?_push_size _ rfl, rfl, _, rfl⟩⟩
theorem pe_lst (h : PA X es t) : PE X (.List es pos) (tLst t) := by
  intro pins s σ H Q I hq
  refine wpAny_List_spliced (thn (h pos pins s σ H _ I hq) fun us s1 ⟨xs, H1, I1, r, z, q⟩ => ⟨by rw [← r.length]; exact z, ?_⟩)
  have hf : H1 s1.heap.objs.size = none := I1.hok.fresh (Nat.le_refl _)
  refine ⟨.ref s1.heap.objs.size, upd H1 s1.heap.objs.size (.lst xs), I1.laid (t' := s1.toks) (fun b u e => Heap.get?_push_of_some _ e) (Nat.le_refl _) ?_, rfl, q _ hf⟩
  exact ⟨z, us, 0, r, Heap.get?_push_size _ rfl⟩
end
abbrev Sp := List V → Hp → VK → XK → Prop
abbrev CXT := List Env → Hp → Shared → XK → Value → Shared → Prop
structure Env0 (P : Program) (w : World) (K : PySem.W.Frag) (mg : Str → Option Value) (base : Heap) (A : Around) (outer : List Env) (s : Shared) (H : Hp) : Prop where
  frames : A.frames = some outer
  mod : Mod K mg base
  bs : ∀ b o, base.get? b = some o → s.heap.get? b = some o ∧ H b = none
  bsz : base.objs.size ≤ s.heap.objs.size
  funs : s.heap.FunFrames base outer
  frf : ∀ b ∈ frs outer, H b = none
  hok : HOk P w H s.heap
  bare : AllBare s.gens
def CE (outer : List Env) (P : Program) (w : World) (H : Hp) (s : Shared) (Q : VK) (u : Value) (s' : Shared) : Prop :=
  ∃ v H', s'.os = s.os ∧ AllBare s'.gens ∧ Un (frs outer) [] H H' s.heap s'.heap ∧ HOk P w H' s'.heap ∧ RelV v u ∧ Q v H'
def CR (CX : CXT) (outer : List Env) (P : Program) (w : World) (H : Hp) (s : Shared) (Q : VK) (E : XK) (r : Result) (s' : Shared) : Prop :=
  match r with
  | .ok (.ret u) => CE outer P w H s Q u s'
  | .ok _ => False
  | .error e => CX outer H s E e s'
structure FnOk (P : Program) (w : World) (K : PySem.W.Frag) (mg : Str → Option Value) (base : Heap) (CX : CXT) (k : Nat) (f : Addr) (fd : FuncData) (ps : List Str) (sp : Sp) : Prop where
  len : ∀ vs H Q E, sp vs H Q E → vs.length = ps.length
  run : ∀ (A : Around) (outer : List Env) (s : Shared) (H : Hp) (args : Args) (us : List Value) (vs : List V) (Q : VK) (E : XK), Room k A → Env0 P w K mg base A outer s H → BindsTo s fd args (ps.zip us) → Vals vs us → sp vs H Q E →
    codeAny (model P w) A (.call (.ref f) args) (CR CX outer P w H s Q E) s
theorem Env0.make {P : Program} {w : World} {K : PySem.W.Frag} {mg : Str → Option Value} {base : Heap} {A : Around} {outer : List Env} {s : Shared} {H : Hp} (e : Env0 P w K mg base A outer s H) (C : Addr) (us : List Value) (kw : List (Str × Value)) :
    Env0 P w K mg base (A.under (.builtin "type.__call__" ⟨.ref C :: us, kw⟩)) outer s H := ⟨by first | exact e.frames | (simpa [Around.under, Code.envs, Code.isFrame, pushEnvs] using e.frames), e.mod, e.bs, e.bsz, e.funs, e.frf, e.hok, e.bare⟩
section
variable {X : Cx} {pins : List (Addr × Obj)} {σ : St} {H : Hp} {s s' : Shared}
theorem Inv.env0 (I : Inv X pins σ H s) : Env0 X.prog X.w X.K X.mg X.base X.A X.stack s H :=
  ⟨I.ok.frames, I.ok.mod, I.bs, Nat.le_trans I.ok.bsz I.sz, I.stack, I.stkFree, I.hok, I.bare⟩
theorem Inv.after {Q : VK} {u : Value} (I : Inv X pins σ H s) (h : CE X.stack X.prog X.w H s Q u s') : EP X pins σ Q u s' := by
  obtain ⟨v, H', os, bare, un, hok, r, q⟩ := h
  obtain ⟨hh, g, d, t, os'⟩ := s'
  obtain rfl : os' = s.os := os
  exact ⟨v, H', I.call (h' := hh) (g' := g) (d' := d) (t' := t) (ch := []) un hok bare (fun b z => absurd z (by simp)), r, q⟩
end
def tCall (sp : Sp) (dvs : List V) (E : XK) (t : TA) : TE := fun σ H Q => t σ H fun vs H1 => sp (vs ++ dvs) H1 Q E
def tMake (C : Addr) (sp : Sp) (dvs : List V) (E : XK) (t : TA) : TE := fun σ H Q => t σ H fun vs H1 => ∀ x dx, H1 x = none → H1 dx = none → dx ≠ x →
  sp (.ref x :: (vs ++ dvs)) (upd (upd H1 dx (.own x)) x (.ins C dx [])) (fun v H2 => v = .non ∧ Q (.ref x) H2) E
def Binds (K : PySem.W.Frag) (fd : FuncData) (ps : List Str) (ds : List Value) : Prop :=
  ∀ (s : Shared) (us : List Value), K.In s.heap → (us ++ ds).length = ps.length → BindsTo s fd ⟨us, []⟩ (ps.zip (us ++ ds))
theorem Binds.all {K : PySem.W.Frag} {fd : FuncData} {ps : List Str} (h : ∀ us : List Value, us.length = ps.length → bindArgs fd ⟨us, []⟩ = pure (ps.zip us)) : Binds K fd ps [] := fun s us _ hl => by
  rw [List.append_nil] at hl ⊢
  exact .of_eq (h us hl)
def Passes (CX : CXT) (X : Cx) (E : XK) : Prop := ∀ (pins : List (Addr × Obj)) (σ : St) (H : Hp) (s : Shared) (e : Value) (s' : Shared), Inv X pins σ H s → CX X.stack H s E e s' → X.xe e s'
section
variable {X : Cx} {CX : CXT} {k : Nat} {f C : Addr} {fd : FuncData} {ps : List Str} {sp : Sp} {dvs : List V} {ds : List Value} {E : XK} {x m : Str} {p pos apos : Pos} {e o : Expr} {es : List Expr} {ta : TE} {t : TA}
theorem run_fn {pins : List (Addr × Obj)} {σ : St} {H : Hp} {s : Shared} {Q : VK} {us : List Value} {vs : List V} (F : FnOk X.prog X.w X.K X.mg X.base CX k f fd ps sp) (hr : Room k X.A) (hb : Binds X.K fd ps ds) (hd : Vals dvs ds) (hx : Passes CX X E)
    (I : Inv X pins σ H s) (r : Vals vs us) (h : sp (vs ++ dvs) H Q E) : wpAny (model X.prog X.w) X.A (call (.ref f) us) (EP X pins σ Q) X.xe s := by
  have r2 : Vals (vs ++ dvs) (us ++ ds) := r.append hd
  have hl : (us ++ ds).length = ps.length := by rw [← r2.length]; exact F.len _ _ _ _ h
  refine wpAny_call (codeAny_mono (F.run X.A X.stack s H ⟨us, []⟩ (us ++ ds) (vs ++ dvs) Q E hr I.env0 (hb s us I.kIn hl) r2 h) fun r s' hq => ?_)
  cases r with
  | error e => exact hx pins σ H s e s' I hq
  | ok fl =>
    cases fl with
    | ret u => exact I.after hq
    | next => exact False.elim hq
    | brk => exact False.elim hq
    | cont => exact False.elim hq
structure Mk (K : PySem.W.Frag) (C f : Addr) : Prop where
  makes : PySem.W.makesIn K C = true
  init : PySem.W.findIn K (.ref C) "__init__" = some (some (.ref f))
  fn : PySem.W.isFn K (.ref f) = true
  kp : PySem.W.keepIn K (.ref C) = true
theorem run_make {pins : List (Addr × Obj)} {σ : St} {H : Hp} {s : Shared} {Q : VK} {us : List Value} {vs : List V} (M : Mk X.K C f) (F : FnOk X.prog X.w X.K X.mg X.base CX k f fd ps sp) (hr : Room (k + 1) X.A) (hb : Binds X.K fd ps ds) (hd : Vals dvs ds)
    (hx : Passes CX X E) (I : Inv X pins σ H s) (r : Vals vs us)
    (h : ∀ x dx, H x = none → H dx = none → dx ≠ x → sp (.ref x :: (vs ++ dvs)) (upd (upd H dx (.own x)) x (.ins C dx [])) (fun v H2 => v = .non ∧ Q (.ref x) H2) E) :
    wpAny (model X.prog X.w) X.A (call (.ref C) us) (EP X pins σ Q) X.xe s := by
  have hq := h (s.heap.objs.size + 1) s.heap.objs.size (I.hok.fresh (Nat.le_succ _)) (I.hok.fresh (Nat.le_refl _)) (Nat.ne_of_lt (Nat.lt_succ_self _))
  have I2 := Inv.made (C := C) I
  have r2 : Vals (V.ref (s.heap.objs.size + 1) :: (vs ++ dvs)) (Value.ref (s.heap.objs.size + 1) :: (us ++ ds)) := .cons rfl (r.append hd)
  have hl : (Value.ref (s.heap.objs.size + 1) :: us ++ ds).length = ps.length := by
    have e := r2.length
    rw [F.len _ _ _ _ hq] at e
    exact e.symm
  refine wpAny_call (make_map (f := f) I.kIn M.makes M.init (beq_iff_eq.mp M.fn) (codeAny_mono (F.run _ X.stack _ _ ⟨Value.ref (s.heap.objs.size + 1) :: us, []⟩ (Value.ref (s.heap.objs.size + 1) :: (us ++ ds)) _ _ E (hr.make C us [])
    (I2.env0.make C us []) (hb _ (Value.ref (s.heap.objs.size + 1) :: us) I2.kIn hl) r2 hq) fun r s' hq' => ?_))
  cases r with
  | error e => exact hx pins σ _ _ e s' I2 hq'
  | ok fl =>
    cases fl with
    | ret u =>
      obtain ⟨v, H', I3, rv, ev, q3⟩ := I2.after hq'
      subst ev
      exact ⟨rv, ⟨V.ref (s.heap.objs.size + 1), H', I3, rfl, q3⟩⟩
    | next => exact False.elim hq'
    | brk => exact False.elim hq'
    | cont => exact False.elim hq'
theorem pe_make (M : Mk X.K C f) (F : FnOk X.prog X.w X.K X.mg X.base CX k f fd ps sp) (hr : Room (k + 1) X.A) (hg : Gl X x) (hm : X.mg x = some (.ref C)) (hb : Binds X.K fd ps ds) (hd : Vals dvs ds) (hx : Passes CX X E)
    (ha : PA X (e :: es) t) (hdb : (x == ("__debug__" : Str)) = false := by decide) (he : starEach (e :: es) X.env = (false, eval e X.env) :: starEach es X.env := by rfl) (hpl : (backTo pos (starEach es X.env)).any (·.1) = false := by rfl) :
    PE X (.Call (.Name x p) (e :: es) [] pos) (tMake C sp dvs E t) := by
  intro pins s σ H Q I h
  refine wpAny_Call_Name_kw (ld_glob I hg hm ?_ hdb)
  refine PySem.W.callWith_K (h₀ := X.base) I.ok.mod.kin M.kp (thn (ha pos pins s σ H _ I h) fun us s1 ⟨vs, H1, I1, r, q⟩ => ⟨I1.kIn, ?_⟩) he hpl
  exact run_make M F hr hb hd hx I1 r q
end
structure FnScope (N P : List Str) (sc : Scope) : Prop where
  kind : sc.kind = .function
  co : sc.isCoroutine = false
  gen : sc.isGenerator = false
  nd : N.Nodup
  pre : N.take P.length = P
  par : ∀ x ∈ P, sc.names.lookup x = some .local ∨ sc.names.lookup x = some .cell
  nofree : ∀ y ∈ sc.names, y.2 ≠ .free
theorem bindL_out {kindOf : Str → Option NameKind} {x : Str} : ∀ {binds : List (Str × Value)} {m : Str → Option Value}, (∀ v, (x, v) ∉ binds) → bindL kindOf binds m x = m x
  | [], _, _ => rfl
  | (n, v) :: r, m, h => by
    unfold bindL
    rw [bindL_out fun w hw => h w (List.mem_cons_of_mem _ hw)]
    split
    · have : x ≠ n := by rintro rfl; exact h v List.mem_cons_self
      simp [this]
    · rfl
theorem bindC_out {kindOf : Str → Option NameKind} {x : Str} : ∀ {binds : List (Str × Value)} {m : Str → Option Value}, (∀ v, (x, v) ∉ binds) → bindC kindOf binds m x = m x
  | [], _, _ => rfl
  | (n, v) :: r, m, h => by
    unfold bindC
    rw [bindC_out fun w hw => h w (List.mem_cons_of_mem _ hw)]
    split
    · rfl
    · have : x ≠ n := by rintro rfl; exact h v List.mem_cons_self
      simp [this]
theorem bindL_get {kindOf : Str → Option NameKind} {x : Str} {v : Value} : ∀ {P : List Str} {vs : List Value} {i : Nat} {m : Str → Option Value}, P.Nodup → P[i]? = some x → vs[i]? = some v → kindOf x = some .local →
    bindL kindOf (P.zip vs) m x = some v
  | [], _, _, _, _, h, _, _ => by simp at h
  | _ :: _, [], _, _, _, _, h, _ => by simp at h
  | p :: P, w :: vs, 0, m, nd, h1, h2, hk => by
    simp at h1 h2; subst h1; subst h2
    show bindL kindOf ((p, w) :: P.zip vs) m p = _
    unfold bindL
    rw [bindL_out fun v hv => (List.nodup_cons.mp nd).1 (List.of_mem_zip hv).1, if_pos hk]
    simp
  | p :: P, w :: vs, i + 1, m, nd, h1, h2, hk => by
    show bindL kindOf ((p, w) :: P.zip vs) m x = _
    unfold bindL
    exact bindL_get (i := i) (List.nodup_cons.mp nd).2 (by simpa using h1) (by simpa using h2) hk
theorem bindC_get {kindOf : Str → Option NameKind} {x : Str} {v : Value} : ∀ {P : List Str} {vs : List Value} {i : Nat} {m : Str → Option Value}, P.Nodup → P[i]? = some x → vs[i]? = some v → kindOf x ≠ some .local →
    bindC kindOf (P.zip vs) m x = some v
  | [], _, _, _, _, h, _, _ => by simp at h
  | _ :: _, [], _, _, _, _, h, _ => by simp at h
  | p :: P, w :: vs, 0, m, nd, h1, h2, hk => by
    simp at h1 h2; subst h1; subst h2
    show bindC kindOf ((p, w) :: P.zip vs) m p = _
    unfold bindC
    rw [bindC_out fun v hv => (List.nodup_cons.mp nd).1 (List.of_mem_zip hv).1, if_neg hk]
    simp
  | p :: P, w :: vs, i + 1, m, nd, h1, h2, hk => by
    show bindC kindOf ((p, w) :: P.zip vs) m x = _
    unfold bindC
    exact bindC_get (i := i) (List.nodup_cons.mp nd).2 (by simpa using h1) (by simpa using h2) hk
def start (N : List Str) (vs : List V) : St := vs.map some ++ List.replicate (N.length - vs.length) none
def cxOf (CX : CXT) (P : Program) (w : World) (K : PySem.W.Frag) (mg : Str → Option Value) (base : Heap) (N : List Str) (qual : Str) (scope : Scope) (f : Addr) (cd : Value) (A : Around) (outer : List Env) (s : Shared) (H : Hp) (E : XK) : Cx where
  prog := P
  w := w
  K := K
  mg := mg
  base := base
  A := A.deeper (envOfC qual scope s.heap.objs.size f cd)
  N := N
  s₀ := s
  H₀ := H
  env := envOfC qual scope s.heap.objs.size f cd
  outer := outer
  stack := envOfC qual scope s.heap.objs.size f cd :: outer
  ex := []
  calm := true
  fn := fun _ => true
  pn := []
  xe := fun e s' => wpAny (model P w) (A.deeper (envOfC qual scope s.heap.objs.size f cd)) (leaving (envOfC qual scope s.heap.objs.size f cd) e) (fun _ s'' => CX outer H s E e s'') (fun e' s'' => CX outer H s E e' s'') s'
theorem cell_has {sc : Scope} {n : Nat} {x : Str} (h : sc.names.lookup x = some .cell) : ∃ c, (cellsFrom n sc.names []).lookup x = some c := by
  have q := PySem.W.cellsFrom_some sc.names n [] (.inl h)
  exact Option.isSome_iff_exists.mp q
end L2
namespace L2
open PySem PySem.Spec PyProof.Rows
section
variable {X : Cx} {x : Str} {p pos : Pos} {e : Expr} {es : List Expr} {t : TA} {id T : String} {r : List V → Hp → VK → Prop}
def tCB (r : List V → Hp → VK → Prop) (t : TA) : TE := fun σ H Q => t σ H fun vs H1 => r vs H1 Q
theorem pe_callB (hc : CallR X (.builtin id) r) (hg : Gl X x) (hm : X.mg x = none) (hv : bootBuiltins x = some (.builtin id)) (ha : PA X (e :: es) t) (hn : x ≠ "__name__" := by decide) (hdb : (x == ("__debug__" : Str)) = false := by decide)
    (he : starEach (e :: es) X.env = (false, eval e X.env) :: starEach es X.env := by rfl) (hpl : (backTo pos (starEach es X.env)).any (·.1) = false := by rfl) : PE X (.Call (.Name x p) (e :: es) [] pos) (tCB r t) := by
  intro pins s σ H Q I h
  refine wpAny_Call_Name_kw (ld_blt I hg hm hv ?_ hn hdb)
  exact PyProof.Rows.callWith_builtin1 (thn (ha pos pins s σ H _ I h) fun us s1 ⟨vs, H1, I1, r1, q1⟩ => hc pins s1 σ H1 vs us Q I1 r1 q1) he hpl
theorem pe_callTy (hc : CallR X (.type T) r) (hg : Gl X x) (hm : X.mg x = none) (hv : bootBuiltins x = some (.type T)) (ha : PA X (e :: es) t) (hn : x ≠ "__name__" := by decide) (hdb : (x == ("__debug__" : Str)) = false := by decide)
    (he : starEach (e :: es) X.env = (false, eval e X.env) :: starEach es X.env := by rfl) (hpl : (backTo pos (starEach es X.env)).any (·.1) = false := by rfl) : PE X (.Call (.Name x p) (e :: es) [] pos) (tCB r t) := by
  intro pins s σ H Q I h
  refine wpAny_Call_Name_kw (ld_blt I hg hm hv ?_ hn hdb)
  exact PyProof.Rows.callWith_type1 (thn (ha pos pins s σ H _ I h) fun us s1 ⟨vs, H1, I1, r1, q1⟩ => hc pins s1 σ H1 vs us Q I1 r1 q1) he hpl
end
end L2
namespace HT
open PySem PyProof.Rows
section
variable {prog : Program} {w : World} {A : Around} {E : Value → Shared → Prop} {s : Shared}
def sIx (n d : Nat) : Option Int → Nat
  | none => d
  | some v => if v < 0 then (v + (n : Int)).toNat else min v.toNat n
theorem sIx_none (n d : Nat) : sIx n d none = d := rfl
theorem sIx_nat (n d k : Nat) : sIx n d (some (k : Int)) = min k n := by
  show (if (k : Int) < 0 then ((k : Int) + (n : Int)).toNat else min (k : Int).toNat n) = min k n
  rw [if_neg (by omega), Int.toNat_natCast]
theorem sIx_le (n d : Nat) (hd : d ≤ n) (o : Option Int) : sIx n d o ≤ n := by
  cases o with
  | none => exact hd
  | some v =>
    show (if v < 0 then (v + (n : Int)).toNat else min v.toNat n) ≤ n
    by_cases hv : v < 0
    · rw [if_pos hv]; omega
    · rw [if_neg hv]; exact Nat.min_le_right _ _
theorem clip_eq (v : Int) (n d : Nat) : (if v < 0 then max (v + (n : Int)) 0 else min v (n : Int)) = ((sIx n d (some v) : Nat) : Int) := by
  show (if v < 0 then max (v + (n : Int)) 0 else min v (n : Int)) = (((if v < 0 then (v + (n : Int)).toNat else min v.toNat n) : Nat) : Int)
  by_cases hv : v < 0
  · simp only [if_pos hv]; omega
  · simp only [if_neg hv]; omega
theorem adjust_gen (lo hi : Option Int) (n : Nat) : Builtin.Slice.sliceAdjust lo hi 1 (n : Int) = (((sIx n 0 lo : Nat) : Int), ((sIx n n hi : Nat) : Int)) := by
  have h1 : ¬ ((1 : Int) < 0) := by omega
  unfold Builtin.Slice.sliceAdjust
  simp only [h1, if_false]
  refine Prod.ext ?_ ?_
  · cases lo with
    | none => rfl
    | some v => exact clip_eq v n 0
  · cases hi with
    | none => rfl
    | some v => exact clip_eq v n n
theorem places_gen (i j : Nat) : Builtin.Slice.slicePlaces (i : Int) (j : Int) 1 = j - i := by
  unfold Builtin.Slice.slicePlaces
  have h1 : (1 : Int) > 0 := by omega
  simp only [h1, if_true, Int.ediv_one]
  split <;> omega
theorem slicePart_ {v : Value} {o : Option Int} {Q : Option Int → Shared → Prop} (p : IsPart v o) (h : Q o s) : wpAny (model prog w) A (Builtin.Slice.slicePartIndex v) Q E s := by
  cases p with
  | none => exact slicePart_none h
  | int i t => exact slicePart_int h
theorem sliceApplied_gen {sl : Addr} {vl vu : Value} {lo hi : Option Int} {n : Nat} {Q : Int × Int × Nat → Shared → Prop} (hs : s.heap.IsSliceOf sl vl vu .none) (pl : IsPart vl lo) (pu : IsPart vu hi)
    (h : Q (((sIx n 0 lo : Nat) : Int), 1, sIx n n hi - sIx n 0 lo) s) : wpAny (model prog w) A (Builtin.Slice.sliceApplied (.ref sl) (pure (n : Int))) Q E s := by
  obtain ⟨os, hos, hcs, hds⟩ := id hs
  unfold Builtin.Slice.sliceApplied Builtin.Slice.sliceFields
  refine wpAny_bind (wpAny_bind (wpAny_field hos hds (x := vl) rfl (wpAny_bind (wpAny_field hos hds (x := vu) rfl (wpAny_bind (wpAny_field hos hds (x := .none) rfl (wpAny_pure ?_)))))))
  refine wpAny_bind (slicePart_none ?_)
  show wpAny _ _ (if ((1 : Int) == 0) = true then _ else _) _ _ s
  rw [if_neg (by decide)]
  refine wpAny_bind (slicePart_ pl (wpAny_bind (slicePart_ pu (wpAny_bind (wpAny_pure ?_)))))
  show wpAny _ _ (match Builtin.Slice.sliceAdjust lo hi 1 (n : Int) with | (lo, hi) => pure (lo, (1 : Int), Builtin.Slice.slicePlaces lo hi 1)) _ _ s
  rw [adjust_gen lo hi n]
  show wpAny _ _ (pure (((sIx n 0 lo : Nat) : Int), (1 : Int), Builtin.Slice.slicePlaces ((sIx n 0 lo : Nat) : Int) ((sIx n n hi : Nat) : Int) 1)) _ _ s
  rw [places_gen]
  exact wpAny_pure h
theorem pick_gen (xs : Array Value) (i k : Nat) : ((List.range k).filterMap fun (m : Nat) => xs[((i : Int) + (m : Int) * 1).toNat]?).toArray = ((xs.toList.drop i).take k).toArray := by
  have e : (fun (m : Nat) => xs[((i : Int) + (m : Int) * 1).toNat]?) = fun m => xs[i + m]? := by
    funext m
    have : ((i : Int) + (m : Int) * 1).toNat = i + m := by omega
    rw [this]
  rw [e]
  have := pick_run xs i k
  rw [List.filterMap_map] at this
  have e2 : ((fun x => xs[x]?) ∘ fun x => i + x) = fun m => xs[i + m]? := rfl
  rw [e2] at this
  rw [this]
theorem getItem_tuple_cut {t sl : Addr} {items : Array Value} {vl vu : Value} {lo hi : Option Int} {Q : Value → Shared → Prop} (ht : IsTup s.heap t items) (hs : s.heap.IsSliceOf sl vl vu .none) (pl : IsPart vl lo) (pu : IsPart vu hi)
    (hw : ¬ (sIx items.size 0 lo = 0 ∧ sIx items.size items.size hi = items.size))
    (h : Q (.ref s.heap.objs.size) { s with heap := s.heap.push { cls := .type "tuple", data := .seq ((items.toList.drop (sIx items.size 0 lo)).take (sIx items.size items.size hi - sIx items.size 0 lo)).toArray } })
    (hsz : items.size ≤ sizeLine) : wpAny (model prog w) A (getItem (.ref t) (.ref sl)) Q E s := by
  have htake : sizeOk (.seq ((items.toList.drop (sIx items.size 0 lo)).take (sIx items.size items.size hi - sIx items.size 0 lo)).toArray) := by
    show ((items.toList.drop (sIx items.size 0 lo)).take (sIx items.size items.size hi - sIx items.size 0 lo)).toArray.size ≤ sizeLine
    rw [List.size_toArray, List.length_take, List.length_drop, Array.length_toList]
    omega
  have hj : sIx items.size items.size hi ≤ items.size := sIx_le _ _ (Nat.le_refl _) hi
  obtain ⟨os, hos, hcs, hds⟩ := id hs
  have hTs : s.TypeIs (.ref sl) "slice" := ⟨os, hos, hcs⟩
  unfold getItem
  try with_reducible refine wpAny_holding ?_
  first | refine wpAny_bind (wpAny_pure ?_) | skip
  refine wpAny_bind (wpAny_sequenceKey ht.typeIs (by decide) ?_)
  refine wpAny_bind (wpAny_callSpecial?_slot (name := Str.ofString "__getitem__") ht.typeIs PyProof.Rows.slot_tuple_getitem
    (wpAny_call_entry PyProof.Rows.slot_tuple_getitem ht.typeIs entry_tuple_getitem ?_ (args_tuple_getitem _ _)))
  show wpAny _ _ (Builtin.Tuple.tupleItemsOf (.ref t) >>= _) _ _ s
  refine wpAny_bind (tupleItemsOf_ ht ?_)
  refine wpAny_bind (wpAny_typeOf hTs ?_)
  rw [if_pos (by decide)]
  refine wpAny_bind (sliceApplied_gen hs pl pu ?_)
  have hno : ¬ ((((sIx items.size 0 lo : Nat) : Int) == 0 && (1 : Int) == 1 && (sIx items.size items.size hi - sIx items.size 0 lo) == items.size) = true) := by
    intro q
    rw [Bool.and_eq_true, Bool.and_eq_true] at q
    have q1 : ((sIx items.size 0 lo : Nat) : Int) = 0 := eq_of_beq q.1.1
    have q2 : sIx items.size items.size hi - sIx items.size 0 lo = items.size := eq_of_beq q.2
    exact hw ⟨by omega, by omega⟩
  show wpAny _ _ (if (((sIx items.size 0 lo : Nat) : Int) == 0 && (1 : Int) == 1 && (sIx items.size items.size hi - sIx items.size 0 lo) == items.size) = true then _ else _) _ _ s
  rw [if_neg hno, pick_gen]
  first
    | exact wpAny_bind (m := Builtin.Tuple.tupleExact _) (wpAny_newObj_type (wpAny_pure ⟨_, rfl, wpAny_pure h⟩) htake)
    | exact wpAny_bind (m := Builtin.Tuple.tupleExact _) (wpAny_newObj_type (wpAny_bind (wpAny_pure (wpAny_pure ⟨_, rfl, wpAny_pure h⟩))) htake)
    | exact wpAny_bind (wpAny_bind (m := Builtin.Tuple.tupleExact _) (wpAny_newObj_type (wpAny_pure (wpAny_pure ⟨_, rfl, wpAny_pure h⟩)) htake))
    | exact wpAny_bind (wpAny_bind (m := Builtin.Tuple.tupleExact _) (wpAny_newObj_type (wpAny_pure ⟨_, rfl, wpAny_pure h⟩) htake))
end
end HT
namespace L2
open PySem PySem.Spec PyProof.Rows
abbrev TO := St → Hp → (Option Int → Hp → Prop) → Prop
def PO (X : Cx) (e : Option Expr) (t : TO) : Prop :=
  ∀ (pins : List (Addr × Obj)) (s : Shared) (σ : St) (H : Hp) (Q : Option Int → Hp → Prop), Inv X pins σ H s → t σ H Q →
    wpAny (model X.prog X.w) X.A (evalPart e X.env) (fun u s' => ∃ o H', Inv X pins σ H' s' ∧ IsPart u o ∧ Q o H') X.xe s
def tNoPart : TO := fun _ H Q => Q none H
def tPart (t : TE) : TO := fun σ H Q => t σ H fun x H1 => ∃ i, x = .int i ∧ Q (some i) H1
section
variable {X : Cx} {e : Expr} {te : TE} {lo hi : Option Expr} {tl th : TO} {pos p2 : Pos}
theorem po_none : PO X none tNoPart := by
  intro pins s σ H Q I h
  rw [evalPart_none]
  exact wpAny_pure ⟨none, H, I, .none, h⟩
theorem po_some (h : PE X e te) : PO X (some e) (tPart te) := by
  intro pins s σ H Q I hw
  rw [evalPart_some]
  refine thn (h pins s σ H _ I hw) fun u s1 ⟨x, H1, I1, r1, q1⟩ => ?_
  obtain ⟨i, rfl, q⟩ := q1
  obtain ⟨t, rfl⟩ := r1
  exact ⟨some i, H1, I1, .int i t, q⟩
def SlR (X : Cx) (r : V → Option Int → Option Int → Hp → VK → Prop) : Prop :=
  ∀ (pins : List (Addr × Obj)) (s : Shared) (σ : St) (H : Hp) (x : V) (v vl vu : Value) (lo hi : Option Int) (sl : Addr) (Q : VK), Inv X pins σ H s → RelV x v → s.heap.IsSliceOf sl vl vu .none → IsPart vl lo → IsPart vu hi → r x lo hi H Q →
    ∃ T id, typeLookup (.type T) "__getitem__" = pure (some (.builtin id)) ∧ s.TypeIs v T ∧ wpAny (model X.prog X.w) X.A (getItem v (.ref sl)) (EP X pins σ Q) X.xe s
def tSl (r : V → Option Int → Option Int → Hp → VK → Prop) (te : TE) (tl th : TO) : TE := fun σ H Q => te σ H fun x H1 => tl σ H1 fun l H2 => th σ H2 fun u H3 => r x l u H3 Q
theorem pe_slice {r : V → Option Int → Option Int → Hp → VK → Prop} (hr : SlR X r) (he : PE X e te) (hl : PO X lo tl) (hu : PO X hi th) : PE X (.Subscript e (.Slice lo hi none p2) pos) (tSl r te tl th) := by
  intro pins s σ H Q I h
  refine Subscript_ (thn (he pins s σ H _ I h) fun v s1 ⟨x, H1, I1, r1, q1⟩ => ?_)
  refine wpAny_Slice (thn (hl pins s1 σ H1 _ I1 q1) fun vl s2 ⟨l, H2, I2, pl, q2⟩ => thn (hu pins s2 σ H2 _ I2 q2) fun vu s3 ⟨u, H3, I3, pu, q3⟩ => ?_)
  rw [evalPart_none]
  refine wpAny_pure ?_
  have I4 : Inv X pins σ H3 { s3 with heap := s3.heap.push { cls := .type "slice", data := .fields #[vl, vu, .none] } } := I3.kept (t' := s3.toks) fun b ob q => Heap.get?_push_of_some _ q
  obtain ⟨T, id, hT, ht, hg⟩ := hr pins { s3 with heap := s3.heap.push { cls := .type "slice", data := .fields #[vl, vu, .none] } } σ H3 x v vl vu l u s3.heap.objs.size Q I4 r1 (Heap.IsSliceOf.new ..) pl pu q3
  show wpAny (model X.prog X.w) X.A (subscriptTail e (.Slice lo hi none p2) v (.ref s3.heap.objs.size)) (EP X pins σ Q) X.xe { s3 with heap := s3.heap.push { cls := .type "slice", data := .fields #[vl, vu, .none] } }
  exact tail_any (ops := [.ref s3.heap.objs.size, v]) ht hT hg (by with_unfolding_all rfl)
def cutV (xs : List V) (lo hi : Option Int) : List V := (xs.drop (HT.sIx xs.length 0 lo)).take (HT.sIx xs.length xs.length hi - HT.sIx xs.length 0 lo)
theorem cutV_length (xs : List V) (lo hi : Option Int) : (cutV xs lo hi).length ≤ xs.length := by
  unfold cutV
  rw [List.length_take, List.length_drop]
  omega
def rSlT (K : PySem.W.Frag) : V → Option Int → Option Int → Hp → VK → Prop := fun x lo hi H Q => ∃ a xs, x = .ref a ∧ SqT K H a xs ∧
  ¬ (HT.sIx xs.length 0 lo = 0 ∧ HT.sIx xs.length xs.length hi = xs.length) ∧ ∀ p, H p = none → Q (.ref p) (upd H p (.tup (cutV xs lo hi)))
theorem sl_tup : SlR X (rSlT X.K) := by
  intro pins s σ H x v vl vu lo hi sl Q I rx hs pl pu h
  obtain ⟨a, xs, rfl, hx, hw, q⟩ := h
  cases rx
  obtain ⟨its, r, ht, hz⟩ := I.tuple hx
  have hlen : its.toArray.size = xs.length := by rw [List.size_toArray]; exact r.length.symm
  refine ⟨"tuple", _, PyProof.Rows.slot_tuple_getitem.lookup, ht.typeIs, ?_⟩
  refine HT.getItem_tuple_cut ht hs pl pu (by rw [hlen]; exact hw) ?_ (by rw [hlen]; exact hz)
  rw [hlen]
  refine ⟨.ref s.heap.objs.size, _, I.laid (t' := s.toks) (o := .tup (cutV xs lo hi)) (fun b ob q => Heap.get?_push_of_some _ q) (Nat.le_refl _) ?_, rfl, q _ (I.hok.fresh (Nat.le_refl _))⟩
  exact ⟨Nat.le_trans (cutV_length xs lo hi) hz, _, (r.drop (HT.sIx xs.length 0 lo)).take (HT.sIx xs.length xs.length hi - HT.sIx xs.length 0 lo), IsTup.new _ _⟩
end
end L2
namespace L2
open PySem PySem.Spec PyProof.Rows
def ixN (n : Nat) (i : Int) : Option Nat := if 0 ≤ i then (if i < n then some i.toNat else none) else if -(n : Int) ≤ i then some (i + n).toNat else none
def atI {α : Type} (xs : List α) (i : Int) : Option α := (ixN xs.length i).bind fun j => xs[j]?
theorem ixN_seq {n : Nat} {i : Int} {j : Nat} (h : ixN n i = some j) : seqIndex? i n = some j ∧ j < n ∧ -(n : Int) ≤ i ∧ i < n := by
  unfold ixN at h
  by_cases h0 : 0 ≤ i
  · rw [if_pos h0] at h
    by_cases h1 : i < n
    · rw [if_pos h1] at h
      have e : i.toNat = j := Option.some.inj h
      exact ⟨by rw [seqIndex_of h0 h1, e], by omega, by omega, h1⟩
    · rw [if_neg h1] at h; cases h
  · rw [if_neg h0] at h
    by_cases h1 : -(n : Int) ≤ i
    · rw [if_pos h1] at h
      have e : (i + n).toNat = j := Option.some.inj h
      exact ⟨by rw [seqIndex_neg (by omega) h1, e], by omega, h1, by omega⟩
    · rw [if_neg h1] at h; cases h
theorem atI_get {α : Type} {xs : List α} {i : Int} {v : α} (h : atI xs i = some v) : ∃ j, seqIndex? i xs.length = some j ∧ xs[j]? = some v ∧ j < xs.length ∧ -(xs.length : Int) ≤ i ∧ i < xs.length := by
  unfold atI at h
  cases e : ixN xs.length i with
  | none => rw [e] at h; cases h
  | some j =>
    rw [e] at h
    obtain ⟨h1, h2, h3, h4⟩ := ixN_seq e
    exact ⟨j, h1, h, h2, h3, h4⟩
theorem atI_nat {α : Type} {xs : List α} {j : Nat} {v : α} (h : xs[j]? = some v) : atI xs (j : Int) = some v := by
  have hj : j < xs.length := (List.getElem?_eq_some_iff.mp h).1
  have e : ixN xs.length (j : Int) = some j := by
    unfold ixN
    rw [if_pos (by omega), if_pos (by omega)]; simp
  unfold atI; rw [e]; exact h
theorem atI_last {α : Type} (xs : List α) (v : α) : atI (xs ++ [v]) (-1) = some v := by
  have hl : (xs ++ [v]).length = xs.length + 1 := by simp
  have e : ixN (xs ++ [v]).length (-1) = some xs.length := by
    unfold ixN
    rw [hl, if_neg (by decide), if_pos (by omega)]
    congr 1
    omega
  unfold atI
  rw [e]
  show (xs ++ [v])[xs.length]? = some v
  simp
def PlainIx (b : Expr) : Prop := ∀ o i, subscripted b false o i = operate [o, i] (getItem o i)
def IxR (X : Cx) (r : R2) : Prop :=
  ∀ (value slice : Expr) (pins : List (Addr × Obj)) (s : Shared) (σ : St) (H : Hp) (x y : V) (v u : Value) (Q : VK), Inv X pins σ H s → RelV x v → RelV y u → r x y H Q →
    subscripted slice false v u = operate [v, u] (getItem v u) → wpAny (model X.prog X.w) X.A (subscriptTail value slice v u) (EP X pins σ Q) X.xe s
def MtR (X : Cx) (id : String) (r : V → List V → Hp → VK → Prop) : Prop :=
  ∀ (pins : List (Addr × Obj)) (s : Shared) (σ : St) (H : Hp) (x : V) (xs : List V) (v : Value) (us : List Value) (Q : VK), Inv X pins σ H s → RelV x v → Vals xs us → r x xs H Q →
    wpAny (model X.prog X.w) X.A (call (.builtin id) (v :: us)) (EP X pins σ Q) X.xe s
section
variable {X : Cx} {a b : Expr} {ta tb : TE} {pos : Pos}
theorem pe_ix {r : R2} (hr : IxR X r) (ha : PE X a ta) (hb : PE X b tb) (hs : PlainIx b) : PE X (.Subscript a b pos) (tOp r ta tb) := by
  intro pins s σ H Q I h
  exact Subscript_ (binT ha hb I h fun v u s2 x y H2 I2 rx ry q => hr a b pins s2 σ H2 x y v u Q I2 rx ry q (hs _ _))
def rIxL (K : PySem.W.Frag) : R2 := fun x y H Q => ∃ p xs i v, x = .ref p ∧ y = .int i ∧ SqL K H p xs ∧ atI xs i = some v ∧ Q v H
def rIxT (K : PySem.W.Frag) : R2 := fun x y H Q => ∃ p xs i v, x = .ref p ∧ y = .int i ∧ SqT K H p xs ∧ atI xs i = some v ∧ Q v H
theorem ix_list : IxR X (rIxL X.K) := by
  intro value slice pins s σ H x y v u Q I rx ry h hs
  obtain ⟨p, xs, i, z, rfl, rfl, hq, he, q⟩ := h
  cases rx
  obtain ⟨t, rfl⟩ := ry
  obtain ⟨its, r, pl, hz⟩ := I.list hq
  obtain ⟨j, h1, h2, h3, h4, h5⟩ := atI_get he
  obtain ⟨w, ew, rw'⟩ := r.get h2
  have hl := r.length
  have hn := line63
  have fin : EP X pins σ Q w s := ⟨z, H, I, rw', q⟩
  by_cases h0 : 0 ≤ i
  · have hj : i.toNat = j := by
      rw [seqIndex_of h0 h5] at h1
      exact Option.some.inj h1
    exact item_listR pl.isList h0 (by omega) (by rw [hj]; simpa using ew) fin hs
  · have hj : (i + (its.toArray.size : Int)).toNat = j := by
      rw [seqIndex_neg (by omega) h4] at h1
      rw [List.size_toArray, ← hl]
      exact Option.some.inj h1
    exact subscriptTail_builtinR (x := w) pl.isList.typeIs slot_list_getitem.lookup
      (wpAny_getItem_list_neg (Q := fun r s' => r = w ∧ EP X pins σ Q r s') pl.isList (by omega) (by rw [List.size_toArray] <;> omega) (by omega) (by rw [hj]; simpa using ew) ⟨rfl, fin⟩) hs
theorem ix_tup : IxR X (rIxT X.K) := by
  intro value slice pins s σ H x y v u Q I rx ry h hs
  obtain ⟨p, xs, i, z, rfl, rfl, hq, he, q⟩ := h
  cases rx
  obtain ⟨t, rfl⟩ := ry
  obtain ⟨its, r, pl, hz⟩ := I.tuple hq
  obtain ⟨j, h1, h2, h3, h4, h5⟩ := atI_get he
  obtain ⟨w, ew, rw'⟩ := r.get h2
  have hl := r.length
  have hn := line63
  have fin : EP X pins σ Q w s := ⟨z, H, I, rw', q⟩
  exact subscriptTail_builtinR (x := w) pl.typeIs slot_tuple_getitem.lookup
    (getItem_tuple (j := j) (Q := fun r s' => r = w ∧ EP X pins σ Q r s') pl (by omega) (by omega) (by rw [List.size_toArray, ← hl]; exact h1) (by simpa using ew) ⟨rfl, fin⟩) hs
theorem slice_bounds (lo hi : Option Int) (n : Nat) : (sliceBounds lo hi none n).1 = ((HT.sIx n 0 lo : Nat) : Int) ∧ (sliceBounds lo hi none n).2.1 = ((HT.sIx n n hi : Nat) : Int) ∧ (sliceBounds lo hi none n).2.2 = 1 := by
  refine ⟨?_, ?_, rfl⟩
  · cases lo with
    | none => simp [sliceBounds, HT.sIx]
    | some i =>
      simp only [sliceBounds, HT.sIx, Option.getD_none, show (1 : Int) > 0 by decide, if_true]
      by_cases h : i < 0
      · simp only [h, if_true] <;> omega
      · simp only [h, if_false] <;> omega
  · cases hi with
    | none => simp [sliceBounds, HT.sIx]
    | some i =>
      simp only [sliceBounds, HT.sIx, Option.getD_none, show (1 : Int) > 0 by decide, if_true]
      by_cases h : i < 0
      · simp only [h, if_true] <;> omega
      · simp only [h, if_false] <;> omega
theorem slicePick_cut (its : List Value) (lo hi : Option Int) : slicePick its.toArray lo hi none = ((its.drop (HT.sIx its.length 0 lo)).take (HT.sIx its.length its.length hi - HT.sIx its.length 0 lo)).toArray := by
  obtain ⟨h1, h2, h3⟩ := slice_bounds lo hi its.toArray.size
  unfold slicePick
  rw [h1, h2, h3]
  simp only [sliceRange_one, pick_run, List.size_toArray] <;> rfl
def rSlL (K : PySem.W.Frag) : V → Option Int → Option Int → Hp → VK → Prop := fun x lo hi H Q => ∃ a xs, x = .ref a ∧ SqL K H a xs ∧ ∀ p, H p = none → Q (.ref p) (upd H p (.lst (cutV xs lo hi)))
theorem sl_list : SlR X (rSlL X.K) := by
  intro pins s σ H x v vl vu lo hi sl Q I rx hs pl pu h
  obtain ⟨a, xs, rfl, hx, q⟩ := h
  cases rx
  obtain ⟨its, r, ht, hz⟩ := I.list hx
  have hlen := r.length
  refine ⟨"list", _, slot_list_getitem.lookup, ht.isList.typeIs, ?_⟩
  refine wpAny_getItem_list_slice ht.isList hs pl pu .none (by simp) ?_ (by rw [List.size_toArray] <;> omega)
  rw [slicePick_cut, ← hlen]
  refine ⟨.ref s.heap.objs.size, _, I.laid (t' := s.toks) (o := .lst (cutV xs lo hi)) (fun b ob q => Heap.get?_push_of_some _ q) (Nat.le_refl _) ?_, rfl, q _ (I.hok.fresh (Nat.le_refl _))⟩
  exact ⟨Nat.le_trans (cutV_length xs lo hi) hz, _, 0, (r.drop (HT.sIx xs.length 0 lo)).take (HT.sIx xs.length xs.length hi - HT.sIx xs.length 0 lo), Heap.get?_push_size _ rfl⟩
def flatV : V → Bool
  | .non => true
  | .bl _ => true
  | .int _ => true
  | .str _ => true
  | _ => false
def eqV : V → V → Bool
  | .non, .non => true
  | .bl a, .bl b => a == b
  | .bl a, .int b => (if a then 1 else 0) == b
  | .int a, .bl b => a == (if b then 1 else 0)
  | .int a, .int b => a == b
  | .str a, .str b => a == b
  | _, _ => false
theorem eqAt_V {A : Around} {s : Shared} {y x : V} {u v : Value} (ry : RelV y u) (rx : RelV x v) (fy : flatV y = true) (fx : flatV x = true) : SeqAt.EqAt A s u v (eqV y x) := by
  cases y with
  | non =>
    cases ry
    cases x with
    | non => cases rx; exact SeqAt.EqAt.same _
    | bl b => cases rx; exact SeqAt.EqAt.none_bool b
    | int b => obtain ⟨t, rfl⟩ := rx; exact SeqAt.EqAt.none_int b t
    | str b => obtain ⟨t, rfl⟩ := rx; exact SeqAt.EqAt.none_str b t
    | _ => exact absurd (show false = true from fx) Bool.false_ne_true
  | bl a =>
    cases ry
    cases x with
    | non => cases rx; exact SeqAt.EqAt.bool_none a
    | bl b => cases rx; exact SeqAt.EqAt.bool_bool a b
    | int b => obtain ⟨t, rfl⟩ := rx; exact SeqAt.EqAt.bool_int a b t
    | str b => obtain ⟨t, rfl⟩ := rx; exact SeqAt.EqAt.bool_str a b t
    | _ => exact absurd (show false = true from fx) Bool.false_ne_true
  | int a =>
    obtain ⟨t', rfl⟩ := ry
    cases x with
    | non => cases rx; exact SeqAt.EqAt.int_none a t'
    | bl b => cases rx; exact SeqAt.EqAt.int_bool a t' b
    | int b => obtain ⟨t, rfl⟩ := rx; exact SeqAt.EqAt.int_int a t' b t
    | str b => obtain ⟨t, rfl⟩ := rx; exact SeqAt.EqAt.int_str a t' b t
    | _ => exact absurd (show false = true from fx) Bool.false_ne_true
  | str a =>
    obtain ⟨t', rfl⟩ := ry
    cases x with
    | non => cases rx; exact SeqAt.EqAt.str_none a t'
    | bl b => cases rx; exact SeqAt.EqAt.str_bool a t' b
    | int b => obtain ⟨t, rfl⟩ := rx; exact SeqAt.EqAt.str_int a t' b t
    | str b => obtain ⟨t, rfl⟩ := rx; exact SeqAt.EqAt.str_str a t' b t
    | _ => exact absurd (show false = true from fx) Bool.false_ne_true
  | _ => exact absurd (show false = true from fy) Bool.false_ne_true
def eqU (x : V) (u : Value) : Bool := match u with
  | .none => eqV .non x
  | .bool b => eqV (.bl b) x
  | .int i _ => eqV (.int i) x
  | .str z _ => eqV (.str z) x
  | _ => false
theorem eqU_of {x y : V} {u : Value} (r : RelV y u) (f : flatV y = true) : eqU x u = eqV y x := by
  cases y with
  | non => cases r; rfl
  | bl b => cases r; rfl
  | int i => obtain ⟨t, rfl⟩ := r; rfl
  | str z => obtain ⟨t, rfl⟩ := r; rfl
  | _ => exact absurd (show false = true from f) Bool.false_ne_true
theorem any_eqU {x : V} : ∀ {xs : List V} {us : List Value}, Vals xs us → xs.all flatV = true → us.any (eqU x) = xs.any fun y => eqV y x
  | _, _, .nil, _ => rfl
  | y :: xs, u :: us, .cons r t, f => by
    rw [List.all_cons, Bool.and_eq_true] at f
    rw [List.any_cons, List.any_cons, eqU_of r f.1, any_eqU t f.2]
theorem mem_eqAt {A : Around} {s : Shared} {x : V} {v : Value} (rx : RelV x v) (fx : flatV x = true) : ∀ {xs : List V} {us : List Value}, Vals xs us → xs.all flatV = true → ∀ u ∈ us, SeqAt.EqAt A s u v (eqU x u)
  | _, _, .nil, _ => fun u hu => by cases hu
  | y :: xs, u :: us, .cons r t, f => fun u' hu => by
    rw [List.all_cons, Bool.and_eq_true] at f
    rcases List.mem_cons.mp hu with rfl | hu
    · rw [eqU_of r f.1]; exact eqAt_V r rx f.1 fx
    · exact mem_eqAt rx fx t f.2 u' hu
def inV (x : V) (xs : List V) : Bool := xs.any fun y => eqV y x
def rIn (K : PySem.W.Frag) (neg : Bool) : R2 := fun x y H Q => ∃ p xs, y = .ref p ∧ (SqL K H p xs ∨ SqT K H p xs) ∧ flatV x = true ∧ xs.all flatV = true ∧ Q (.bl (if neg then !inV x xs else inV x xs)) H
theorem op_in_seq : OpR X (compareOp .In) (rIn X.K false) := by
  intro pins s σ H x y v u Q I rx ry h
  obtain ⟨p, xs, rfl, hq, fx, fs, q⟩ := h
  cases ry
  rcases hq with hq | hq
  · obtain ⟨its, r, pl, hz⟩ := I.list hq
    refine SeqAt.in_listAt (eqU x) pl.isList (fun w hw => mem_eqAt rx fx r fs w (by simpa using hw)) ⟨.bl _, H, I, rfl, ?_⟩
    rw [show its.toArray.any (eqU x) = its.any (eqU x) by simp, any_eqU r fs]
    exact q
  · obtain ⟨its, r, pl, hz⟩ := I.tuple hq
    refine SeqAt.in_tupleAt (eqU x) pl (fun w hw => mem_eqAt rx fx r fs w (by simpa using hw)) ⟨.bl _, H, I, rfl, ?_⟩
    rw [show its.toArray.any (eqU x) = its.any (eqU x) by simp, any_eqU r fs]
    exact q
theorem call_len_seq : CallR X (.builtin "len") (fun xs H Q => ∃ p ys, xs = [.ref p] ∧ (SqL X.K H p ys ∨ SqT X.K H p ys) ∧ Q (.int ys.length) H) := by
  intro pins s σ H xs us Q I r h
  obtain ⟨p, ys, rfl, hq, q⟩ := h
  obtain ⟨u, rfl, rx⟩ := vals1 r
  cases rx
  have hn := line63
  rcases hq with hq | hq
  · obtain ⟨its, r', pl, hz⟩ := I.list hq
    have hlen := r'.length
    exact Calls.call_len_list pl.isList (by simp only [List.size_toArray] <;> omega) ⟨.int ys.length, H, I.tok _, ⟨s.toks + 1, by rw [List.size_toArray, hlen]⟩, q⟩
  · obtain ⟨its, r', pl, hz⟩ := I.tuple hq
    have hlen := r'.length
    exact len_tuple pl (by simp only [List.size_toArray] <;> omega) ⟨.int ys.length, H, I.tok _, ⟨s.toks + 1, by rw [List.size_toArray, hlen]⟩, q⟩
theorem call_tuple_of : CallR X (.type "tuple") (fun xs H Q => ∃ p ys, xs = [.ref p] ∧ ((SqL X.K H p ys ∧ ∀ l, H l = none → Q (.ref l) (upd H l (.tup ys))) ∨ (SqT X.K H p ys ∧ Q (.ref p) H))) := by
  intro pins s σ H xs us Q I r h
  obtain ⟨p, ys, rfl, h⟩ := h
  obtain ⟨u, rfl, rx⟩ := vals1 r
  cases rx
  rcases h with ⟨hq, q⟩ | ⟨hq, q⟩
  · obtain ⟨its, r', pl, hz⟩ := I.list hq
    have hlen := r'.length
    refine call_tuple_list pl.isList (fun h' kp => ?_) (by simp only [List.size_toArray] <;> omega)
    have I1 : Inv X pins σ H { s with heap := h' } := I.kept (t' := s.toks) kp
    have I2 : Inv X pins σ (upd H h'.objs.size (.tup ys)) { s with heap := h'.push { cls := .type "tuple", data := .seq its.toArray } } :=
      I1.laid (t' := s.toks) (fun b o e => Heap.get?_push_of_some _ e) (Nat.le_refl _) (show ObjOk X.prog X.w _ _ _ (.tup ys) from ⟨hz, its, r', IsTup.new _ _⟩)
    exact ⟨.ref h'.objs.size, _, I2, rfl, q _ (I1.hok.fresh (Nat.le_refl _))⟩
  · obtain ⟨its, r', pl, hz⟩ := I.tuple hq
    exact call_tuple_same pl ⟨.ref p, H, I, rfl, q⟩
def tyV (K : PySem.W.Frag) (T : String) (x : V) (H : Hp) : Prop := match x with
  | .str _ => T = "str"
  | .int _ => T = "int"
  | .ref p => (T = "list" ∧ ∃ xs, SqL K H p xs) ∨ (T = "tuple" ∧ ∃ o, K.lookup p = some o ∧ o.cls = .type "tuple" ∧ o.dict = none) ∨
      (T = "dict" ∧ ((∃ kvs, H p = some (.dK kvs)) ∨ ∃ kvs, H p = some (.dT kvs))) ∨ (T = "set" ∧ ∃ S n, H p = some (.set S n))
  | _ => False
theorem tyV_is {pins : List (Addr × Obj)} {σ : St} {H : Hp} {s : Shared} {T : String} {x : V} {v : Value} (I : Inv X pins σ H s) (r : RelV x v) (ty : tyV X.K T x H) :
    s.TypeIs v T ∧ ∀ a, v = .ref a → ∃ ob, s.heap.get? a = some ob ∧ ob.dict = none := by
  cases x with
  | str z =>
    obtain ⟨t, rfl⟩ := r
    cases (show T = "str" from ty)
    exact ⟨typeIs_str s z t, fun _ e => nomatch e⟩
  | int i =>
    obtain ⟨t, rfl⟩ := r
    cases (show T = "int" from ty)
    exact ⟨typeIs_int s i t, fun _ e => nomatch e⟩
  | ref p =>
    cases r
    rcases ty with ⟨rfl, xs, hq⟩ | ⟨rfl, o, hk, hc, hd⟩ | ⟨rfl, hk⟩ | ⟨rfl, S, n, hk⟩
    · obtain ⟨its, _, pl, _⟩ := I.list hq
      refine ⟨pl.isList.typeIs, fun a e => ?_⟩
      cases e
      obtain ⟨o, n, e, c, hd, _⟩ := pl
      exact ⟨o, e, hd⟩
    · refine ⟨⟨o, I.kIn p o hk, hc⟩, fun a e => ?_⟩
      cases e
      exact ⟨o, I.kIn _ o hk, hd⟩
    · have z : ∃ o, s.heap.get? p = some o ∧ o.ExactDict := by
        rcases hk with ⟨kvs, hk⟩ | ⟨kvs, hk⟩
        · obtain ⟨_, _, _, _, o, _, _, e, ex, _⟩ := I.hok p _ hk
          exact ⟨o, e, ex⟩
        · obtain ⟨_, _, _, _, o, _, _, e, ex, _⟩ := I.hok p _ hk
          exact ⟨o, e, ex⟩
      obtain ⟨o, e, ex⟩ := z
      refine ⟨⟨o, e, ex.1⟩, fun a e2 => ?_⟩
      cases e2
      exact ⟨o, e, ex.2.1⟩
    · obtain ⟨o, _, _, _, e, ex, _⟩ := I.hok p _ hk
      refine ⟨⟨o, e, ex.1⟩, fun a e2 => ?_⟩
      cases e2
      exact ⟨o, e, ex.2.1⟩
  | _ => exact False.elim ty
def tBM (K : PySem.W.Frag) (T : String) (r : V → List V → Hp → VK → Prop) (to : TE) (t : TA) : TE := fun σ H Q => to σ H fun x H1 => tyV K T x H1 ∧ t σ H1 fun xs H2 => r x xs H2 Q
variable {o e : Expr} {es : List Expr} {to : TE} {t : TA} {name : Str} {apos cpos : Pos} {T id : String} {r : V → List V → Hp → VK → Prop}
theorem pe_bm (pa : PlainAttrs T) (slot : Slot T name id) (hty : typeOf (.builtin id) = pure (.type "method_descriptor")) (hm : MtR X id r) (ho : PE X o to) (ha : PA X (e :: es) t)
    (hbase : attributeBase o name X.env (eval o X.env) = eval o X.env := by rfl)
    (hfew : ((backTo cpos (starEach (e :: es) X.env)).all (fun x => !x.1) && (backToKw cpos (keywordEach [] X.env)).all (fun x => x.1.isSome)
      && decide ((e :: es).length + ([] : List Keyword).length + (if ([] : List Keyword).isEmpty then 0 else 1) < 30)) = true := by rfl)
    (hline : (apos.endLine == cpos.line) = true := by rfl) (hs : starEach (e :: es) X.env = (false, eval e X.env) :: starEach es X.env := by rfl) (hplain : (backTo cpos (starEach es X.env)).any (·.1) = false := by rfl) :
    PE X (.Call (.Attribute o name apos) (e :: es) [] cpos) (tBM X.K T r to t) := by
  intro pins s σ H Q I h
  refine wpAny_Call_method_late hbase hfew hline rfl (thn (ho pins s σ H _ I h) fun v s1 ⟨x, H1, I1, r1, ty, q1⟩ => ?_)
  obtain ⟨h1, h2⟩ := tyV_is I1 r1 ty
  refine ⟨T, id, pa, slot, hty, h1, h2, ?_⟩
  have hA := ha cpos pins s1 σ H1 _ I1 q1
  rw [hs] at hA ⊢
  refine Calls.callWith_builtin (by show (false || (backTo cpos (starEach es X.env)).any (·.1)) = false; rw [hplain] <;> rfl) (Calls.evalArgs_plain ?_)
  exact thn hA fun us s2 ⟨vs, H2, I2, r2, q2⟩ => hm pins s2 σ H2 x vs v us Q I2 r1 r2 q2
end
end L2
namespace L2
open PySem PySem.Spec PyProof.Rows
def MtM (X : Cx) (id : String) (r : V → List V → Hp → VK → Prop) : Prop :=
  ∀ (pins : List (Addr × Obj)) (s : Shared) (σ : St) (H : Hp) (x : V) (xs : List V) (v : Value) (us : List Value) (Q : VK), Inv X pins σ H s → RelV x v → Vals xs us → r x xs H Q →
    wpAny (model X.prog X.w) X.A (call (.builtin id) (v :: us)) (EP X pins σ Q) X.xe s
theorem Vals.one : ∀ {x : V} {us : List Value}, Vals [x] us → ∃ u, us = [u] ∧ RelV x u
  | _, _, .cons r .nil => ⟨_, rfl, r⟩
section
variable {X : Cx} {pins : List (Addr × Obj)} {σ : St} {H : Hp} {s : Shared} {l b : Addr} {xs ys zs : List V}
theorem Inv.lset {its its' : List Value} {n : Nat} {f : Array Value → Array Value} {t' : Nat} (I : Inv X pins σ H s) (hH : H l = some (.lst xs))
    (e : s.heap.get? l = some { cls := .type "list", data := .seq its.toArray n }) (hf : f its.toArray = its'.toArray) (hv : Vals ys its') (hz : ys.length ≤ sizeLine) :
    Inv X pins σ (upd H l (.lst ys)) { s with heap := s.heap.update l (Obj.mapSeq f), toks := t' } := by
  have q := PySem.IsL.update e f
  rw [hf] at q
  refine I.write (x := l) (e := l) (by rw [hH]; exact trivial) (.inl rfl) (fun b' u hb hu => (Heap.get?_update_other s.heap (Obj.mapSeq f) (Ne.symm hb)).trans hu) ⟨_, q⟩ ?_
  exact ⟨hz, its', _, hv, q⟩
theorem Inv.lnew {its : List Value} {t' : Nat} (I : Inv X pins σ H s) (hv : Vals ys its) (hz : ys.length ≤ sizeLine) :
    Inv X pins σ (upd H s.heap.objs.size (.lst ys)) { s with heap := s.heap.push { cls := .type "list", data := .seq its.toArray }, toks := t' } :=
  I.laid (fun _ _ q => Heap.get?_push_of_some _ q) (Nat.le_refl _) ⟨hz, its, 0, hv, Heap.get?_push_size _ rfl⟩
theorem Inv.fresh (I : Inv X pins σ H s) : H s.heap.objs.size = none := I.hok.fresh (Nat.le_refl _)
theorem Inv.lstM (I : Inv X pins σ H s) (hH : H l = some (.lst xs)) : xs.length ≤ sizeLine ∧ ∃ (its : List Value) (n : Nat), Vals xs its ∧ xs.length = its.length ∧ s.heap.get? l = some { cls := .type "list", data := .seq its.toArray n } := by
  obtain ⟨z, its, n, r, e⟩ := I.hok l _ hH
  exact ⟨z, its, n, r, r.length, e⟩
end
section
variable {X : Cx}
def rAppend : V → List V → Hp → VK → Prop := fun x vs H Q => ∃ l xs y, x = .ref l ∧ vs = [y] ∧ H l = some (.lst xs) ∧ xs.length < sizeLine ∧ Q .non (upd H l (.lst (xs ++ [y])))
theorem mt_append : MtM X "list.append" rAppend := by
  intro pins s σ H x vs v us Q I rx rv h
  obtain ⟨l, xs, y, rfl, rfl, hH, hz, q⟩ := h
  cases rx
  obtain ⟨u, rfl, ru⟩ := rv.one
  obtain ⟨z, its, n, r, hl, e⟩ := I.lstM hH
  refine call_meets F.slot_list_append ⟨_, e, rfl⟩ F.entry_list_append (F.args_list_append_2 _ _) (PySem.list_append l its.toArray n u (by rw [List.size_toArray]; omega)) ⟨e, ?_⟩
  refine ⟨.non, _, I.lset (its' := its ++ [u]) hH e (by simp) (r.append (.cons ru .nil)) ?_, rfl, q⟩
  rw [List.length_append, List.length_singleton]
  omega
def rCat : R2 := fun x y H Q => ∃ l b xs zs, x = .ref l ∧ y = .ref b ∧ H l = some (.lst xs) ∧ H b = some (.lst zs) ∧ xs.length + zs.length ≤ sizeLine ∧ ∀ p, H p = none → Q (.ref p) (upd H p (.lst (xs ++ zs)))
theorem op_cat : OpR X (binaryOp .Add) rCat := by
  intro pins s σ H x y v u Q I rx ry h
  obtain ⟨l, b, xs, zs, rfl, rfl, hH, hB, hz, q⟩ := h
  cases rx
  cases ry
  obtain ⟨z, its, n, r, hl, e⟩ := I.lstM hH
  obtain ⟨z2, its2, n2, r2, hl2, e2⟩ := I.lstM hB
  refine PySem.P.add_list e e2 ?_ (by rw [List.size_toArray, List.size_toArray]; omega)
  have ea : its.toArray ++ its2.toArray = (its ++ its2).toArray := by simp
  rw [ea]
  exact ⟨.ref _, _, I.lnew (t' := s.toks) (r.append r2) (by rw [List.length_append]; omega), rfl, q _ I.fresh⟩
end
end L2
namespace Att
open PySem PySem.W PySem.Calls PyProof.Rows
theorem ints_of_wellAll {P : Params} {h : Heap} : ∀ (ns : List Int) (vs : List Value), WellAll P h vs (ns.map WData.int) → IntsAre vs ns := by
  intro ns
  induction ns with
  | nil =>
    intro vs w
    rw [List.map_nil] at w
    cases w
    exact .nil
  | cons n ns ih =>
    intro vs w
    rw [List.map_cons] at w
    cases w with
    | cons a b =>
      cases a
      exact .cons _ _ (ih _ b)
theorem script_of {l : OpenLaw} {n : Nat} (hn : l.most = some n) {P : Params} {h : Heap} {args : List WData} {vals : List Value}
    (hpre : l.row.toRowW.claim.pre args = true) (hwl : WellAll P h vals args) :
    ∃ a vs ns, vals = [Value.ref a] ∧ args = [WData.list (ns.map WData.int)] ∧ h.get? a = some { cls := .type "list", data := .seq vs.toArray } ∧ IntsAre vs ns ∧ ns.length ≤ n := by
  have hsh : WShape.hasAll [] args [.list .int] = true := (pre_splitW hpre).1
  have hc : l.pre.holds [] { args := args } = true := (pre_splitW hpre).2
  obtain ⟨d, r, rfl, h1, h2⟩ := hasAllW_cons hsh
  obtain rfl := hasAllW_nil h2
  obtain ⟨xs, rfl, h3⟩ := hasW_list h1
  obtain ⟨ns, rfl⟩ := items_int h3
  have hlen : ns.length ≤ n := by
    unfold OpenLaw.pre at hc
    have h4 : (WTm.not (.lt (.lit (.int (n : Int))) (.len (.arg 0)))).holds [] { args := [.list (ns.map .int)] } = true := by
      have h4 := (holds_andW hc).1
      rw [hn] at h4
      exact h4
    have h5 := condW_of h4 (w_not (w_lt w_lit (w_len_list (w_arg rfl))))
    rw [List.length_map] at h5
    refine Nat.le_of_not_lt fun q => ?_
    have q' : (n : Int) < ((ns.length : Nat) : Int) := by omega
    first
      | (rw [decide_eq_true q'] at h5; exact absurd h5 (by decide))
      | (simp at h5; omega)
  cases hwl with
  | cons w1 w2 =>
    cases w2
    cases w1 with
    | list ho hall => exact ⟨_, _, ns, rfl, rfl, ho, ints_of_wellAll ns _ hall, hlen⟩
theorem post_true (l : OpenLaw) (args : List WData) : l.row.toRowW.claim.post args (.bool true) args = true :=
  postW_of (r := l.row.toRowW) (X := (true == true))
    (show WShape.has [] (.bool true) .bool = true by first | rfl | decide | simp [WShape.has, WShape.arms, WShape.armsAll])
    (show (WTm.eq .res (.lit (.bool true))).value [] { args := args, res := some (.bool true), after := args } = some (.bool (true == true)) from w_eq_bool (w_res rfl) w_lit) rfl
theorem attach_call {l : OpenLaw} {n : Nat} {q : Program} {loose : List Str} {XP : (Str → Option Value) → Heap → Prop} {YP : World → Heap → Prop} {d : DefRec}
    (hn : l.most = some n) (hdf : d.params.defaults = [])
    (call : ∀ (w : World) (s₀ s₁ : Shared) (mg mb : Str → Option Value) (fa : Addr) (o : Obj) (pm cd doc : Value) (a : Addr) (vs : List Value) (ns : List Int),
      Ground q loose [] XP w s₀ mg mb s₁.heap → YP w s₁.heap →
      s₁.heap.get? fa = some o → o.data = .func (docDef d.name d.params d.body d.scope pm cd doc) → s₁.heap.CodeRec cd d.name → mg d.name = some (.ref fa) →
      s₁.heap.get? a = some { cls := .type "list", data := .seq vs.toArray } → IntsAre vs ns → ns.length ≤ n → s₁.gens = #[] →
      codeAny (model l.prog w) callerA (.call (.ref fa) ⟨[.ref a], []⟩) (fun r s' => r = .ok (.ret (.bool true)) ∧ OldK s₁.heap s'.heap ∧ s'.os = s₁.os ∧ AllBare s'.gens) s₁) :
    WalkO q loose XP YP l.row.toRowW d [] (fun f vs => PySem.call f vs) := by
  intro w s₀ s₁ mg mb G Y fa o pm cd doc dV kV ho hd hcd hD hmg hg args vals as hpre hlay hrd hwl hlo
  obtain rfl : dV = .none := Dflts.none hD hdf
  obtain rfl : kV = .none := Dflts.noKw hD
  obtain ⟨a, vs, ns, rfl, rfl, hobj, hints, hlen⟩ := script_of hn hpre hwl
  refine enter_call (codeAny_mono (call w s₀ s₁ mg mb fa o pm cd doc a vs ns G Y ho (fd_plain hd) hcd hmg hobj hints hlen hg) fun r s' hq => ?_)
  obtain ⟨rfl, h2, h3, h4⟩ := hq
  exact ⟨.inl ⟨.bool true, .bool true, [], rfl, fun _ => rfl, .bool true, post_true l _, fun _ => ⟨List.Pairwise.nil, fun _ hm => (nomatch hm)⟩⟩, h2, h3, h4⟩
end Att
namespace L2
open PySem PySem.Spec PyProof.Rows
theorem vals_ints : ∀ {vs : List Value} {ns : List Int}, IntsAre vs ns → Vals (ns.map V.int) vs
  | _, _, .nil => .nil
  | _, _, .cons n t h => .cons ⟨t, rfl⟩ (vals_ints h)
def Only (H : Hp) : Prop := ∀ b, H b = none ∨ ∃ o xs, H b = some (.frz o (.lst xs))
theorem law_call {P : Program} {w : World} {K : PySem.W.Frag} {mg mb : Str → Option Value} {CX : CXT} {k : Nat} {fa a : Addr} {fd : FuncData} {x : Str} {sp : Sp} {s₁ : Shared} {vs : List Value} {ns : List Int}
    (KX : K.In s₁.heap) (hns : s₁.heap.Ns mainGlobals mg) (hb : s₁.heap.Ns builtinsNs mb) (hbb : ∀ x : Str, x ≠ "__name__" → mb x = bootBuiltins x) (hlim : s₁.heap.NoLimit) (hg : s₁.gens = #[])
    (ha : s₁.heap.get? a = some { cls := .type "list", data := .seq vs.toArray }) (hi : IntsAre vs ns) (hl : ns.length ≤ sizeLine) (hr : Room k callerA)
    (F : ∀ base : Heap, K.In base → base.Ns mainGlobals mg → FnOk P w K mg base CX k fa fd [x] sp) (hbind : ∀ (s : Shared) (u : Value), BindsTo s fd ⟨[u], []⟩ [(x, u)])
    (hsp : ∀ H : Hp, Only H → SqL K H a (ns.map V.int) → sp [.ref a] H (fun v _ => v = .bl true) fun _ _ _ => False)
    (hCX : ∀ H e s', CX [] H s₁ (fun _ _ _ => False) e s' → False) :
    codeAny (model P w) callerA (.call (.ref fa) ⟨[.ref a], []⟩) (fun r s' => r = .ok (.ret (.bool true)) ∧ OldK s₁.heap s'.heap ∧ s'.os = s₁.os ∧ AllBare s'.gens) s₁ := by
  have rv := vals_ints hi
  have lenV := hi.length
  -- from an abstract heap in which nothing but the script may be tracked
  have core : ∀ H : Hp, Only H → SqL K H a (ns.map V.int) → HOk P w H s₁.heap → (∀ b, H b ≠ none → b = a) → (H a ≠ none → K.lookup a = none) →
      codeAny (model P w) callerA (.call (.ref fa) ⟨[.ref a], []⟩) (fun r s' => r = .ok (.ret (.bool true)) ∧ OldK s₁.heap s'.heap ∧ s'.os = s₁.os ∧ AllBare s'.gens) s₁ := by
    intro H hO hS hok hA hK
    have base_of : ∀ {b : Addr} {o : Obj}, s₁.heap.get? b = some o → H b = none → (hidT s₁.heap H).get? b = some o := fun e n => hidT_get e n
    have noA : ∀ {b : Addr} {o : Obj} {es : Array DictEntry} {ep : Nat}, s₁.heap.get? b = some o → o.data = .dict es ep → H b = none := fun {b o es ep} e d => by
      cases q : H b with
      | none => rfl
      | some u =>
        have e' : b = a := hA b (by rw [q]; simp)
        subst e'
        rw [ha] at e; cases e
        have d' : Data.seq vs.toArray _ = Data.dict es ep := d
        cases d'
    have nsK : ∀ {b : Addr} {m : Str → Option Value}, s₁.heap.Ns b m → (hidT s₁.heap H).Ns b m := fun {b m} ⟨o, es, ep, e, d, r⟩ => ⟨o, es, ep, base_of e (noA e d), d, r⟩
    have hKb : K.In (hidT s₁.heap H) := fun b o e => base_of (KX b o e) (by
      cases q : H b with
      | none => rfl
      | some u =>
        have e' : b = a := hA b (by rw [q]; simp)
        subst e'
        rw [hK (by rw [q]; simp)] at e; cases e)
    have hM : Mod K mg (hidT s₁.heap H) := ⟨hKb, nsK hns, ⟨mb, nsK hb, hbb⟩, let ⟨mc, h1, h2⟩ := hlim; ⟨mc, nsK h1, h2⟩⟩
    have e0 : Env0 P w K mg (hidT s₁.heap H) callerA [] s₁ H := ⟨rfl, hM, fun b o e => of_hidT e, Nat.le_of_eq (hidT_size _ _), trivial, fun b hb => absurd (show b ∈ ([] : List Addr) from hb) (by simp), hok, .of_eq hg⟩
    refine codeAny_mono ((F _ hKb (nsK hns)).run callerA [] s₁ H ⟨[.ref a], []⟩ [.ref a] [.ref a] _ _ hr e0 (hbind s₁ (.ref a)) (.cons rfl .nil) (hsp H hO hS)) fun r s' h => ?_
    cases r with
    | error e => exact (hCX H e s' h).elim
    | ok fl =>
      cases fl with
      | next => exact False.elim h
      | brk => exact False.elim h
      | cont => exact False.elim h
      | ret u =>
        obtain ⟨v, H', os, bare, un, hok', r', q⟩ := h
        have q' : v = .bl true := q
        subst q'
        obtain rfl : u = Value.bool true := r'
        refine ⟨rfl, OldK.of_keep fun b o e => ?_, os, bare⟩
        cases q : H b with
        | none => exact un.keep b o e q (by intro z; exact absurd (show b ∈ ([] : List Addr) from z) (by simp)) (by simp)
        | some u =>
          rcases hO b with z | ⟨ob, xs, z⟩
          · rw [q] at z; cases z
          · have z2 := un.frzs b ob _ z
            obtain ⟨e1, _⟩ := hok b _ z
            obtain ⟨e2, _⟩ := hok' b _ z2
            rw [e] at e1; cases e1
            exact e2
  cases hk : K.lookup a with
  | some o =>
    -- the script is one of the module's own objects
    have e := KX a o hk
    rw [ha] at e
    cases e
    refine core (fun _ => none) (fun _ => .inl rfl) (.inr ⟨_, vs.toArray, _, hk, rfl, rfl, rfl, by rw [List.size_toArray, lenV]; exact hl, by simpa using rv⟩) (fun b u z => by have z' : (none : Option HO) = some u := z; cases z') (fun b z => absurd rfl z) fun z => absurd rfl z
  | none =>
    refine core (fun b => if b = a then some (.frz { cls := .type "list", data := .seq vs.toArray } (.lst (ns.map V.int))) else none) (fun b => ?_) (.inl (.inr ⟨{ cls := .type "list", data := .seq vs.toArray }, if_pos rfl⟩)) (fun b u z => ?_) (fun b z => ?_) fun _ => hk
    · by_cases hb : b = a
      · exact .inr ⟨_, _, if_pos hb⟩
      · exact .inl (if_neg hb)
    · by_cases hb : b = a
      · have z' := (if_pos hb).symm.trans z
        cases z'
        subst hb
        exact ⟨ha, by rw [List.length_map]; exact hl, vs, _, rv, ha⟩
      · have z' := (if_neg hb).symm.trans z
        cases z'
    · by_cases hb : b = a
      · exact hb
      · exact absurd (if_neg hb) z
end L2
namespace L2
open PySem PySem.Spec PyProof.Rows
abbrev KOf {K : PySem.W.Frag} {h : Heap} (_ : K.In h) : PySem.W.Frag := K
theorem walk_of {l : PySem.W.OpenLaw} {n k : Nat} {q : Program} {loose : List Str} {XP : (Str → Option Value) → Heap → Prop} {YP : World → Heap → Prop} {d : DefRec} {K : Params → PySem.W.Frag} {CX : World → CXT} {sp : World → Sp} {x : Str}
    (hn : l.most = some n) (hn2 : n ≤ sizeLine) (hdf : d.params.defaults = []) (hr : Room k callerA)
    (hY : ∀ (w : World) (h : Heap), YP w h → (K w.params).In h)
    (F : ∀ (w : World) (mg : Str → Option Value) (fa : Addr) (h : Heap), (K w.params).In h → h.Ns mainGlobals mg → mg d.name = some (.ref fa) →
      ∃ fd : FuncData, (∀ (s : Shared) (u : Value), BindsTo s fd ⟨[u], []⟩ [(x, u)]) ∧
        ∀ base : Heap, (K w.params).In base → base.Ns mainGlobals mg → FnOk l.prog w (K w.params) mg base (CX w) k fa fd [x] (sp w))
    (hsp : ∀ (w : World) (H : Hp) (a : Addr) (ns : List Int), ns.length ≤ n → Only H → SqL (K w.params) H a (ns.map V.int) → sp w [.ref a] H (fun v _ => v = .bl true) fun _ _ _ => False)
    (hCX : ∀ (w : World) (H : Hp) (s : Shared) (e : Value) (s' : Shared), CX w [] H s (fun _ _ _ => False) e s' → False) :
    PySem.W.WalkO q loose XP YP l.row.toRowW d [] (fun f vs => PySem.call f vs) := by
  refine Att.attach_call hn hdf fun w s₀ s₁ mg mb fa o pm cd doc a vs ns G Y ho hd hcd hmg hobj hints hlen hg => ?_
  have KX := hY w _ Y
  obtain ⟨fd, hb, hF⟩ := F w mg fa _ KX G.T.g hmg
  exact law_call KX G.T.g G.T.b G.T.builtins G.T.nolimit hg hobj hints (Nat.le_trans hlen hn2) hr hF hb (fun H hO hS => hsp w H a ns hlen hO hS) fun H e s' => hCX w H s₁ e s'
end L2
namespace L2
open PySem PySem.Spec PyProof.Rows
def inClass (s : Stmt) (j : Nat) : Stmt := match s with
  | .ClassDef _ _ _ body _ _ _ _ _ _ _ => body.getD j (.Pass ⟨0, 0, 0, 0⟩)
  | _ => .Pass ⟨0, 0, 0, 0⟩
def defArgs (s : Stmt) : Arguments := match s with
  | .FunctionDef _ a _ _ _ _ _ _ _ _ => a
  | _ => { posonlyargs := [], args := [], vararg := none, kwonlyargs := [], kw_defaults := [], kwarg := none, defaults := [] }
def defBody (s : Stmt) : List Stmt := match s with
  | .FunctionDef _ _ b _ _ _ _ _ _ _ => b
  | _ => []
def defScope (s : Stmt) : Scope := match s with
  | .FunctionDef _ _ _ _ _ _ sc _ _ _ => sc
  | _ => { kind := .function, names := [], isGenerator := false, isCoroutine := false }
abbrev E0 : XK := fun _ _ _ => False
structure Fun (K : PySem.W.Frag) (x qual : Str) (st : Stmt) (f : Addr) (fd : FuncData) : Prop where
  ex : ∃ (oc : Value) (od : Option Addr) (kV doc pm : Value) (an : Option Addr) (cdv ct : Value) (osl : Array (Option Value)),
    fd = PySem.W.fnOf x qual (defArgs st) (defBody st) (defScope st) .none kV doc pm an cdv ct ∧ K.lookup f = some ⟨oc, od, .func fd, osl⟩ ∧ PySem.W.codeIn K cdv qual = true
  kp : PySem.W.keepIn K (.ref f) = true
section
variable {P : Program} {w : World} {K : PySem.W.Frag} {mg : Str → Option Value} {base : Heap}
theorem Fun.binds {x qual : Str} {st : Stmt} {f : Addr} {fd : FuncData} {ps : List Str} (F : Fun K x qual st f fd)
    (h : ∀ (kV doc pm : Value) (an : Option Addr) (cdv ct : Value) (us : List Value), us.length = ps.length → bindArgs (PySem.W.fnOf x qual (defArgs st) (defBody st) (defScope st) .none kV doc pm an cdv ct) ⟨us, []⟩ = pure (ps.zip us)) : Binds K fd ps [] := by
  obtain ⟨oc, od, kV, doc, pm, an, cdv, ct, osl, rfl, lk, hcd⟩ := F.ex
  exact .all (h kV doc pm an cdv ct)
theorem fun_mk {x qual : Str} {st : Stmt} {f : Addr} {oc : Value} {od an : Option Addr} {osl : Array (Option Value)} {kV doc pm cdv ct : Value} (l : K.lookup f = some ⟨oc, od, .func (PySem.W.fnOf x qual (defArgs st) (defBody st) (defScope st) .none kV doc pm an cdv ct), osl⟩)
    (c : PySem.W.codeIn K cdv qual = true) (k : PySem.W.keepIn K (.ref f) = true) : Fun K x qual st f (PySem.W.fnOf x qual (defArgs st) (defBody st) (defScope st) .none kV doc pm an cdv ct) := ⟨⟨oc, od, kV, doc, pm, an, cdv, ct, osl, rfl, l, c⟩, k⟩
end
theorem small1000 {n : Nat} (h : n ≤ 1000) : n < sizeLine := Nat.lt_of_le_of_lt h (by decide)
section
variable {X : Cx}
theorem pv (i : Nat) {x : Str} {pos : Pos} (hN : X.N[i]? = some x := by rfl) (hv : Vis X.env.scope x := by first | exact Or.inl rfl | exact Or.inr (Or.inl rfl) | exact Or.inr (Or.inr rfl)) (hd : (x == ("__debug__" : Str)) = false := by decide)
    (hcd : (x == ("__classdict__" : Str)) = false := by decide) : PE X (.Name x pos) (tVar i) := pe_var hN hv hd hcd
end
theorem iteF {A B : Prop} (h : B) : if false = true then A else B := by
  rw [if_neg Bool.false_ne_true]
  exact h
theorem iteT {A B : Prop} (h : A) : if true = true then A else B := by
  rw [if_pos rfl]
  exact h
theorem ite2 {c A B : Prop} [Decidable c] (h1 : c → A) (h2 : ¬ c → B) : if c then A else B := by
  by_cases h : c
  · rw [if_pos h]
    exact h1 h
  · rw [if_neg h]
    exact h2 h
def Same (H H' : Hp) : Prop := ∀ b o, H b = some o → H' b = some o
theorem Same.refl (H : Hp) : Same H H := fun _ _ h => h
theorem Same.trans {H H1 H2 : Hp} (a : Same H H1) (b : Same H1 H2) : Same H H2 := fun c o h => b c o (a c o h)
theorem Same.free {H H' : Hp} (e : Same H H') {l : Addr} (h : H' l = Option.none) : H l = Option.none := by
  cases q : H l with
  | none => rfl
  | some o =>
    rw [e l o q] at h
    cases h
theorem Same.seq {K : PySem.W.Frag} {H H' : Hp} {a : Addr} {xs : List V} (e : Same H H') (h : SqL K H a xs) : SqL K H' a xs := by
  rcases h with (h | ⟨o, h⟩) | h
  · exact .inl (.inl (e _ _ h))
  · exact .inl (.inr ⟨o, e _ _ h⟩)
  · exact .inr h
end L2
namespace L2
open PySem PySem.Spec PyProof.Rows
section
variable {X : Cx}
def CDivW (_ j : Int) : Prop := j ≠ 0 ∧ j.natAbs.log2 < 9000
theorem op_fdivW : OpR X (binaryOp .FloorDiv) (rI CDivW fun i j => .int (i.fdiv j)) := opI fun _ _ _ _ _ _ _ hc q => floordiv_int hc.1 q (.inl (PyProof.noPylong_of_log2 hc.2))
theorem bits_le {i : Int} {k : Nat} (h : i.natAbs < 2 ^ k) : Builtin.Int.intBits i ≤ k := by
  unfold Builtin.Int.intBits
  split
  · exact Nat.zero_le _
  · rename_i z
    have z' : i.natAbs ≠ 0 := fun e => z (beq_iff_eq.mpr (Int.natAbs_eq_zero.mp e))
    exact (Nat.log2_lt z').mpr h
def CMulW (i j : Int) : Prop := i.natAbs < 2 ^ 10000 ∧ j.natAbs < 2 ^ 10000
theorem CMulW.ok {i j : Int} (h : CMulW i j) : IntMulOk i j := .of_bits (Nat.le_trans (bits_le h.1) (by decide)) (Nat.le_trans (bits_le h.2) (by decide))
theorem op_mulW : OpR X (binaryOp .Mult) (rI CMulW fun i j => .int (i * j)) := opI fun _ _ _ _ _ _ _ hc q => mul_int q hc.ok
end
mutual
inductive DV (K : PySem.W.Frag) (H : Hp) : V → PyData → Prop
  | non : DV K H .non .none
  | bl (b : Bool) : DV K H (.bl b) (.bool b)
  | int (i : Int) : DV K H (.int i) (.int i)
  | str (x : Str) : DV K H (.str x) (.str x)
  | lst {a : Addr} {xs : List V} {ds : List PyData} : SqL K H a xs → DVs K H xs ds → DV K H (.ref a) (.list ds)
  | tup {a : Addr} {xs : List V} {ds : List PyData} : SqT K H a xs → DVs K H xs ds → DV K H (.ref a) (.tuple ds)
  | dct {a : Addr} {kvs : List (Key × V)} : H a = some (.dK kvs) → DV K H (.ref a) (.dict [])
inductive DVs (K : PySem.W.Frag) (H : Hp) : List V → List PyData → Prop
  | nil : DVs K H [] []
  | cons {v : V} {vs : List V} {d : PyData} {ds : List PyData} : DV K H v d → DVs K H vs ds → DVs K H (v :: vs) (d :: ds)
end
section
variable {X : Cx} {pins : List (Addr × Obj)} {σ : St} {H : Hp} {s : Shared}
mutual
theorem DV.reads (I : Inv X pins σ H s) : ∀ {v : V} {d : PyData}, DV X.K H v d → d.canLay0 = true → ∀ {u : Value}, RelV v u → ∃ as, Reads s.heap u d as
  | _, _, .non, _, _, r => by cases r; exact ⟨_, .none⟩
  | _, _, .bl b, _, _, r => by cases r; exact ⟨_, .bool b⟩
  | _, _, .int i, _, _, r => by obtain ⟨t, rfl⟩ := r; exact ⟨_, .int i t⟩
  | _, _, .str x, _, _, r => by obtain ⟨t, rfl⟩ := r; exact ⟨_, .str x t⟩
  | _, _, .lst h q, c, _, r => by
    cases r
    obtain ⟨its, rv, pl, _⟩ := I.list h
    obtain ⟨as, ra⟩ := DVs.reads I q c rv
    obtain ⟨o, ho, hc, n, hd⟩ := id pl.isList
    exact ⟨_, .list ho hc hd ra⟩
  | _, _, .tup h q, c, _, r => by
    cases r
    obtain ⟨its, rv, pl, _⟩ := I.tuple h
    obtain ⟨as, ra⟩ := DVs.reads I q c rv
    obtain ⟨o, ho, hc, n, hd⟩ := id pl
    exact ⟨_, .tuple ho hc hd ra⟩
  | _, _, .dct h, c, _, r => nomatch c
theorem DVs.reads (I : Inv X pins σ H s) : ∀ {vs : List V} {ds : List PyData}, DVs X.K H vs ds → PyData.canLayAll0 ds = true → ∀ {us : List Value}, Vals vs us → ∃ as, ReadsAll s.heap us ds as
  | _, _, .nil, _, _, r => by cases r; exact ⟨_, .nil⟩
  | _, _, .cons h q, c, _, r => by
    rw [PyData.canLayAll0] at c
    cases r with
    | cons r1 r2 =>
      obtain ⟨a1, z1⟩ := DV.reads I h (Bool.and_eq_true_iff.mp c).1 r1
      obtain ⟨a2, z2⟩ := DVs.reads I q (Bool.and_eq_true_iff.mp c).2 r2
      exact ⟨_, .cons z1 z2⟩
end
end
section
variable {X : Cx}
def rEqD (K : PySem.W.Frag) : R2 := fun x y H Q => ∃ d e, DV K H x d ∧ DV K H y e ∧ SeqAt.shaped d = true ∧ SeqAt.shaped e = true ∧ Q (.bl (PyData.eqv d e)) H
def rNeD (K : PySem.W.Frag) : R2 := fun x y H Q => ∃ d e, DV K H x d ∧ DV K H y e ∧ SeqAt.shaped d = true ∧ SeqAt.shaped e = true ∧ Q (.bl (!PyData.eqv d e)) H
theorem op_eqD (hu : X.A.units + 64 < cLine) : OpR X (compareOp .Eq) (rEqD X.K) := by
  intro pins s σ H x y v u Q I rx ry h
  obtain ⟨d, e, hd, he, sd, se, q⟩ := h
  obtain ⟨a1, r1⟩ := hd.reads I (SeqAt.canLay_of_shaped sd) rx
  obtain ⟨a2, r2⟩ := he.reads I (SeqAt.canLay_of_shaped se) ry
  exact eq_dataH r1 r2 sd se hu ⟨.bl _, H, I, rfl, q⟩
theorem op_neD (hu : X.A.units + 64 < cLine) : OpR X (compareOp .NotEq) (rNeD X.K) := by
  intro pins s σ H x y v u Q I rx ry h
  obtain ⟨d, e, hd, he, sd, se, q⟩ := h
  obtain ⟨a1, r1⟩ := hd.reads I (SeqAt.canLay_of_shaped sd) rx
  obtain ⟨a2, r2⟩ := he.reads I (SeqAt.canLay_of_shaped se) ry
  exact ne_dataH r1 r2 sd se hu ⟨.bl _, H, I, rfl, q⟩
end
structure TopFn (K : PySem.W.Frag) (mg : Str → Option Value) (x : Str) (st : Stmt) : Prop where
  ex : ∃ (f : Addr) (fd : FuncData), Fun K x x st f fd ∧ mg x = some (.ref f)
theorem same_new {H : Hp} {p : Addr} (h : H p = none) (o : HO) : Same H (upd H p o) := fun b u q => by rw [upd_ne (ne_of_none q h)]; exact q
end L2
namespace L2
open PySem PySem.Spec PyProof.Rows
theorem bt_int : bootBuiltins "int" = some (.type "int") := by decide +kernel
theorem bt_bool : bootBuiltins "bool" = some (.type "bool") := by decide +kernel
theorem bt_tuple : bootBuiltins "tuple" = some (.type "tuple") := by decide +kernel
theorem bt_list : bootBuiltins "list" = some (.type "list") := by decide +kernel
theorem bt_str : bootBuiltins "str" = some (.type "str") := by decide +kernel
theorem bt_len : bootBuiltins "len" = some (.builtin "len") := by decide +kernel
theorem bt_abs : bootBuiltins "abs" = some (.builtin "abs") := by decide +kernel
theorem bt_all : bootBuiltins "all" = some (.builtin "all") := by decide +kernel
theorem bt_isinstance : bootBuiltins "isinstance" = some (.builtin "isinstance") := by decide +kernel
def bsub (t T : String) : Option Bool := if (Value.type t == Value.type T) = true then some true else if PySem.W.kitMeta T = true then (fastBuiltinMro t).map (·.contains (Value.type T)) else none
theorem kit_b {K : PySem.W.Frag} {t T : String} {b : Bool} (h : bsub t T = some b) : PySem.W.kitOne K (.type t) (.type T) = some b := h
theorem topFn_mk {K : PySem.W.Frag} {h : Heap} {mg : Str → Option Value} {x : Str} {st : Stmt} {f : Addr} {oc : Value} {od an : Option Addr} {sl : Array (Option Value)} {kV dc pm cd ct : Value} (X : K.In h) (G : h.Ns mainGlobals mg)
    (a : PySem.W.nsIn K mainGlobals x = some (some (.ref f))) (l : K.lookup f = some ⟨oc, od, .func (PySem.W.fnOf x x (defArgs st) (defBody st) (defScope st) .none kV dc pm an cd ct), sl⟩) (c : PySem.W.codeIn K cd x = true) (k : PySem.W.keepIn K (.ref f) = true) : TopFn K mg x st :=
  ⟨f, _, fun_mk l c k, PySem.W.mg_of X G a⟩
section
variable {X : Cx} {es : List Expr} {te : TE} {t : TA}
theorem pa_const {c : Const} {j : Nat} {p : Pos} (ha : PE X (.Constant c j p) te) (hr : PA X es t) : PA X (.Constant c j p :: es) (tCons te t) := pa_cons ha hr (by rfl)
theorem pa_name {x : Str} {p : Pos} (ha : PE X (.Name x p) te) (hr : PA X es t) : PA X (.Name x p :: es) (tCons te t) := pa_cons ha hr (by rfl)
theorem pa_tuple {xs : List Expr} {k : Nat} {p : Pos} (ha : PE X (.Tuple xs k p) te) (hr : PA X es t) : PA X (.Tuple xs k p :: es) (tCons te t) := pa_cons ha hr (by rfl)
theorem pa_call {f : Expr} {as : List Expr} {kw : List Keyword} {p : Pos} (ha : PE X (.Call f as kw p) te) (hr : PA X es t) : PA X (.Call f as kw p :: es) (tCons te t) := pa_cons ha hr (by rfl)
theorem pa_bin {a : Expr} {o : Operator} {b : Expr} {p : Pos} (ha : PE X (.BinOp a o b p) te) (hr : PA X es t) : PA X (.BinOp a o b p :: es) (tCons te t) := pa_cons ha hr (by rfl)
theorem pa_sub {a b : Expr} {p : Pos} (ha : PE X (.Subscript a b p) te) (hr : PA X es t) : PA X (.Subscript a b p :: es) (tCons te t) := pa_cons ha hr (by rfl)
end
end L2
namespace L2
open PySem PySem.Spec PyProof.Rows
inductive Chn (h : Heap) : Value → Prop
  | none : Chn h .none
  | ref {b : Addr} {o : Obj} {vs : Array Value} {cx : Value} : h.get? b = some o → o.data = .fields vs → vs[2]? = some cx → Chn h cx → Chn h (.ref b)
def Trc (base : Heap) (e : Addr) (c : Value) (d : Option Addr) (fl : Value) (h : Heap) : Prop :=
  ∃ (o oT : Obj) (vs ts : Array Value) (T : Addr), h.get? e = some o ∧ o.cls = c ∧ o.dict = d ∧ o.data = .fields vs ∧ vs[1]? = some (.ref T) ∧ base.get? T = none ∧ T ≠ e ∧ h.get? T = some oT ∧ oT.data = .fields ts ∧ ts[3]? = some fl ∧ ∃ cx, vs[2]? = some cx ∧ Chn h cx
def FlyD (base : Heap) (l : List Env) (e : Addr) (c : Value) (d : Option Addr) (fl : Value) (h : Heap) : Prop :=
  base.StaysIn h ∧ base.get? e = none ∧ h.FunFrames base l ∧ Trc base e c d fl h
end L2
namespace L2
open PySem PySem.Spec PyProof.Rows
def CX1 (P : Program) (w : World) : CXT := fun outer H s E e s' => ∃ (a C : Addr) (d : Option Addr) (H' : Hp) (B : Heap), e = .ref a ∧ s'.os = s.os ∧ AllBare s'.gens ∧
  (∀ h'' : Heap, B.StaysIn h'' → s'.heap.UpToSlots h'' → Un (frs outer) [] H H' s.heap h'' ∧ HOk P w H' h'') ∧ FlyD B outer a (.ref C) d .none s'.heap ∧ H' a = none ∧ s.heap.get? a = none ∧ E (.ref C) d H'
end L2
namespace L2
open PySem PySem.Spec PyProof.Rows
structure RoomB (c : Bool) (k : Nat) (A : Around) : Prop where
  hd : c = true → A.handled = none
  dp : A.depth + 3 * k + 5 < recursionLimit
  un : A.units + 16 * k + 200 < cLine
theorem RoomB.mono {c : Bool} {j k : Nat} {A : Around} (r : RoomB c k A) (h : j ≤ k) : RoomB c j A := ⟨r.hd, by have := r.dp; omega, by have := r.un; omega⟩
theorem RoomB.deeper {c : Bool} {k : Nat} {A : Around} (r : RoomB c (k + 1) A) (env : Env) : RoomB c k (A.deeper env) :=
  ⟨r.hd, by have := r.dp; show A.depth + 1 + 3 * k + 5 < _; omega, by have := r.un; show A.units + 3 + 16 * k + 200 < _; omega⟩
theorem RoomB.depth {c : Bool} {k : Nat} {A : Around} (r : RoomB c k A) : A.depth < recursionLimit := by have := r.dp; omega
theorem RoomB.units {c : Bool} {k : Nat} {A : Around} (r : RoomB c k A) : A.units + 64 < cLine := by have := r.un; omega
theorem Room.b {k : Nat} {A : Around} (r : Room k A) : RoomB true k A := ⟨fun _ => r.hd, r.dp, r.un⟩
structure FnB (P : Program) (w : World) (K : PySem.W.Frag) (mg : Str → Option Value) (base : Heap) (c : Bool) (k : Nat) (f : Addr) (fd : FuncData) (ps : List Str) (sp : Sp) : Prop where
  len : ∀ vs H Q E, sp vs H Q E → vs.length = ps.length
  run : ∀ (A : Around) (outer : List Env) (s : Shared) (H : Hp) (args : Args) (us : List Value) (vs : List V) (Q : VK) (E : XK), RoomB c k A → Env0 P w K mg base A outer s H → BindsTo s fd args (ps.zip us) → Vals vs us → sp vs H Q E →
    codeAny (model P w) A (.call (.ref f) args) (CR (CX1 P w) outer P w H s Q E) s
theorem FnB.ok {P : Program} {w : World} {K : PySem.W.Frag} {mg : Str → Option Value} {base : Heap} {k : Nat} {f : Addr} {fd : FuncData} {ps : List Str} {sp : Sp} (F : FnB P w K mg base true k f fd ps sp) : FnOk P w K mg base (CX1 P w) k f fd ps sp :=
  ⟨F.len, fun A outer s H args us vs Q E hr => F.run A outer s H args us vs Q E hr.b⟩
def cxB (c : Bool) (P : Program) (w : World) (K : PySem.W.Frag) (mg : Str → Option Value) (base : Heap) (N : List Str) (qual : Str) (scope : Scope) (f : Addr) (cd : Value) (A : Around) (outer : List Env) (s : Shared) (H : Hp) (E : XK) : Cx :=
  { cxOf (CX1 P w) P w K mg base N qual scope f cd A outer s H E with calm := c }
theorem inv_startB {c : Bool} {P : Program} {w : World} {K : PySem.W.Frag} {mg : Str → Option Value} {base : Heap} {N ps : List Str} {qual : Str} {scope : Scope} {f : Addr} {cd : Value} {A : Around} {outer : List Env} {s s1 : Shared} {H : Hp} {E : XK} {us : List Value} {vs : List V}
    (S : FnScope N ps scope) (hd : c = true → A.handled = none) (e0 : Env0 P w K mg base A outer s H) (hl : vs.length = ps.length) (r : Vals vs us)
    (x : InCallC s s.heap.objs.size (bindL (envOfC qual scope s.heap.objs.size f cd).kindOf (ps.zip us) fun _ => none) (cellsFrom (s.heap.objs.size + 1) scope.names []) (bindC (envOfC qual scope s.heap.objs.size f cd).kindOf (ps.zip us) fun _ => none) s1) :
    Inv (cxB c P w K mg base N qual scope f cd A outer s H E) [] (start N vs) H s1 := by
  have hpl : ps.length ≤ N.length := by have := congrArg List.length S.pre; rw [List.length_take] at this; omega
  obtain ⟨h1, tk, rfl, hk⟩ := x.done
  have noA : ∀ b : Addr, b ∉ (cxB c P w K mg base N qual scope f cd A outer s H E).ex := fun b z => absurd (show b ∈ ([] : List Addr) from z) (by simp)
  refine ⟨⟨e0.mod, S.kind, rfl, rfl, Nat.le_refl _, fun y z c h1 h2 => ?_, fun y hy => ?_, fun y c _ h => ?_, fun z => hd z, Around.frames_deeper e0.frames, .inr ⟨rfl, rfl⟩, fun b z => absurd z (noA b), e0.bs, e0.bsz, fun b _ _ => noA b, fun b z => absurd z (noA b), e0.funs, e0.frf⟩,
    rfl, e0.bare, Un.kept hk, ⟨_, x.toInCall.ns, fun i y v h1 h2 h3 => ?_⟩, fun y c h => ⟨_, x.cell y c h⟩, e0.hok.fresh (Nat.le_refl _), fun y c h => ?_, fun p hp => absurd (show p ∈ ([] : List (Addr × Obj)) from hp) (by simp), e0.hok.kept hk, ?_⟩
  · exact name_of_addr x.apart (PySem.mem_of_lookup h1) (PySem.mem_of_lookup h2)
  · have hy : scope.names.lookup y = some .cell ∨ scope.names.lookup y = some .free := hy
    rcases hy with hy | hy
    · exact cell_has hy
    · exact absurd rfl (S.nofree _ (PySem.mem_of_lookup hy))
  · exact Nat.le_of_lt (x.above y c (PySem.mem_of_lookup h))
  · have hi : i < vs.length := by
      unfold start at h2
      by_cases hi : i < vs.length
      · exact hi
      · rw [List.getElem?_append_right (by simpa using hi)] at h2
        rw [List.getElem?_replicate] at h2
        split at h2 <;> cases h2
    have ha : vs[i]? = some v := by
      unfold start at h2
      rw [List.getElem?_append_left (by simpa using hi), List.getElem?_map] at h2
      cases e : vs[i]? with
      | none => rw [e] at h2; cases h2
      | some a => rw [e] at h2; cases h2; rfl
    obtain ⟨u, hu, rv⟩ := r.get ha
    have hp : ps[i]? = some y := by
      rw [← S.pre, List.getElem?_take_of_lt (by omega)]; exact h1
    have ndP : ps.Nodup := by rw [← S.pre]; exact S.nd.sublist (List.take_sublist _ _)
    refine ⟨u, rv, ?_⟩
    rcases S.par y (List.mem_of_getElem? hp) with k | k
    · exact .inl ⟨k, bindL_get ndP hp hu k⟩
    · obtain ⟨c, e⟩ := cell_has (n := s.heap.objs.size + 1) k
      refine .inr ⟨.inl k, c, e, ?_⟩
      have q := x.cell y c e
      rw [bindC_get ndP hp hu (by show scope.names.lookup y ≠ _; rw [k]; decide)] at q
      exact q
  · exact e0.hok.fresh (Nat.le_of_lt (x.above y c (PySem.mem_of_lookup h)))
  · unfold start
    show _ = N.length
    rw [List.length_append, List.length_map, List.length_replicate]
    omega
theorem fnB_of {c : Bool} {P : Program} {w : World} {K : PySem.W.Frag} {mg : Str → Option Value} {base : Heap} {k : Nat} {f : Addr} {name qual : Str} {params : Arguments} {body : List Stmt} {scope : Scope} {dV kV doc pm cdv ct oc : Value} {an od : Option Addr}
    {osl : Array (Option Value)} {N ps : List Str} {sp : Sp} (lk : K.lookup f = some ⟨oc, od, .func (PySem.W.fnOf name qual params body scope dV kV doc pm an cdv ct), osl⟩) (hcd : PySem.W.codeIn K cdv qual = true) (S : FnScope N ps scope)
    (len : ∀ vs H Q E, sp vs H Q E → vs.length = ps.length)
    (hbody : ∀ (A : Around) (outer : List Env) (s : Shared) (H : Hp) (vs : List V) (Q : VK) (E : XK), RoomB c k (A.deeper (envOfC qual scope s.heap.objs.size f cdv)) → sp vs H Q E →
      ∃ t, PSs (cxB c P w K mg base N qual scope f cdv A outer s H E) body t ∧ t { nx := fun _ H' => Q .non H', rt := Q } (start N vs) H) :
    FnB P w K mg base c (k + 1) f (PySem.W.fnOf name qual params body scope dV kV doc pm an cdv ct) ps sp := by
  refine ⟨len, fun A outer s H args us vs Q E hr e0 hb r hsp => ?_⟩
  have hl := len _ _ _ _ hsp
  have KX : K.In s.heap := e0.mod.kin.keeps fun b o e => (e0.bs b o e).1
  have lim : s.heap.NoLimit := e0.mod.nolimit.keeps fun b o e => (e0.bs b o e).1
  have hkind : ∀ y ∈ ps.zip us, scope.names.lookup y.1 = some .local ∨ (scope.names.lookup y.1 = some .cell ∧ ((cellsFrom (s.heap.objs.size + 1) scope.names []).lookup y.1).isSome = true) := fun ⟨n, v⟩ hy => by
    rcases S.par n (List.of_mem_zip hy).1 with q | q
    · exact .inl q
    · exact .inr ⟨q, PySem.W.cellsFrom_some _ _ _ (.inl q)⟩
  refine codeAny_call_function hr.depth (KX _ _ lk) rfl S.co S.gen rfl (PySem.W.codeRec_of KX hcd) (hb _ _ _ _ ?_)
  refine wpAny_newFunctionEnv_cells S.kind hkind fun env he s1 x => ?_
  subst he
  refine ⟨lim.keeps x.toInCall.keep, codeAny_func ?_⟩
  obtain ⟨t, ht, hq⟩ := hbody A outer s H vs Q E (hr.deeper _) hsp
  have I : Inv (cxB c P w K mg base N qual scope f cdv A outer s H E) [] (start N vs) H s1 := inv_startB S hr.hd e0 hl r x
  refine wpAny_mono (ht [] s1 (start N vs) H _ I hq) (fun fl s' hs => ?_) fun e s' hs => hs
  have fin : ∀ {σ' : St} {H' : Hp} {v : V} {u : Value}, Inv (cxB c P w K mg base N qual scope f cdv A outer s H E) [] σ' H' s' → RelV v u → Q v H' → CE outer P w H s Q u s' :=
    fun {σ' H' v u} J rv q => ⟨v, H', J.os, J.bare, J.base, J.hok, rv, q⟩
  cases fl with
  | ret u =>
    obtain ⟨v, σ', H', J, rv, q⟩ := hs
    exact fin J rv q
  | next =>
    obtain ⟨σ', H', J, q⟩ := hs
    exact fin (v := V.non) (u := Value.none) J rfl q
  | brk =>
    obtain ⟨_, _, _, q⟩ := hs
    exact False.elim q
  | cont =>
    obtain ⟨_, _, _, q⟩ := hs
    exact False.elim q
structure CalB (P : Program) (w : World) (K : PySem.W.Frag) (mg : Str → Option Value) (base : Heap) (c : Bool) (k : Nat) (x : Str) (ps : List Str) (sp : Sp) : Prop where
  ex : ∃ (f : Addr) (fd : FuncData), FnB P w K mg base c k f fd ps sp ∧ mg x = some (.ref f) ∧ PySem.W.keepIn K (.ref f) = true ∧ Binds K fd ps []
theorem TopFn.calB {c : Bool} {P : Program} {w : World} {K : PySem.W.Frag} {mg : Str → Option Value} {base : Heap} {x : Str} {st : Stmt} {N ps : List Str} {k : Nat} {sp : Sp} (T : TopFn K mg x st) (S : FnScope N ps (defScope st))
    (hb : ∀ (kV doc pm : Value) (an : Option Addr) (cdv ct : Value) (us : List Value), us.length = ps.length → bindArgs (PySem.W.fnOf x x (defArgs st) (defBody st) (defScope st) .none kV doc pm an cdv ct) ⟨us, []⟩ = pure (ps.zip us))
    (len : ∀ vs H Q E, sp vs H Q E → vs.length = ps.length)
    (hbody : ∀ (f : Addr) (cdv : Value) (A : Around) (outer : List Env) (s : Shared) (H : Hp) (vs : List V) (Q : VK) (E : XK), RoomB c k (A.deeper (envOfC x (defScope st) s.heap.objs.size f cdv)) → sp vs H Q E →
      ∃ t, PSs (cxB c P w K mg base N x (defScope st) f cdv A outer s H E) (defBody st) t ∧ t { nx := fun _ H' => Q .non H', rt := Q } (start N vs) H) : CalB P w K mg base c (k + 1) x ps sp := by
  obtain ⟨f, fd, F, hm⟩ := T.ex
  obtain ⟨oc, od, kV, doc, pm, an, cdv, ct, osl, rfl, l, cd⟩ := id F.ex
  exact ⟨f, _, fnB_of l cd S len (hbody f cdv), hm, F.kp, F.binds hb⟩
theorem pass01 {P : Program} {w : World} {X : Cx} : Passes (CX1 P w) X E0 := fun _ _ _ _ _ _ _ h => by
  obtain ⟨_, _, _, _, _, _, _, _, _, _, _, _, q⟩ := h
  exact q.elim
section
variable {X : Cx} {c : Bool} {k : Nat} {ps : List Str} {sp : Sp} {x : Str} {p pos : Pos} {e : Expr} {es : List Expr} {t : TA} {E : XK}
theorem run_fnB {pins : List (Addr × Obj)} {σ : St} {H : Hp} {s : Shared} {Q : VK} {us : List Value} {vs : List V} {f : Addr} {fd : FuncData} {E' : Value → Shared → Prop} (F : FnB X.prog X.w X.K X.mg X.base c k f fd ps sp) (hr : RoomB c k X.A) (hb : Binds X.K fd ps [])
    (I : Inv X pins σ H s) (r : Vals vs us) (h : sp (vs ++ []) H Q E) (hx : ∀ e s', CX1 X.prog X.w X.stack H s E e s' → E' e s') : wpAny (model X.prog X.w) X.A (call (.ref f) us) (EP X pins σ Q) E' s := by
  have r2 : Vals (vs ++ []) (us ++ []) := r.append .nil
  have hl : (us ++ []).length = ps.length := by rw [← r2.length]; exact F.len _ _ _ _ h
  refine wpAny_call (codeAny_mono (F.run X.A X.stack s H ⟨us, []⟩ (us ++ []) (vs ++ []) Q E hr I.env0 (hb s us I.kIn hl) r2 h) fun r s' hq => ?_)
  cases r with
  | error e => exact hx e s' hq
  | ok fl =>
    cases fl with
    | ret u => exact I.after hq
    | next => exact False.elim hq
    | brk => exact False.elim hq
    | cont => exact False.elim hq
theorem pe_cB (C : CalB X.prog X.w X.K X.mg X.base c k x ps sp) (hr : RoomB c k X.A) (hx : Passes (CX1 X.prog X.w) X E) (ha : PA X (e :: es) t) (hg : Gl X x := by rfl) (hdb : (x == ("__debug__" : Str)) = false := by decide)
    (he : starEach (e :: es) X.env = (false, eval e X.env) :: starEach es X.env := by rfl) (hpl : (backTo pos (starEach es X.env)).any (·.1) = false := by rfl) :
    PE X (.Call (.Name x p) (e :: es) [] pos) (tCall sp [] E t) := by
  obtain ⟨f, fd, F, hm, hk, hb⟩ := C.ex
  intro pins s σ H Q I h
  refine wpAny_Call_Name_kw (ld_glob I hg hm ?_ hdb)
  refine PySem.W.callWith_K (h₀ := X.base) I.ok.mod.kin hk (thn (ha pos pins s σ H _ I h) fun us s1 ⟨vs, H1, I1, r, q⟩ => ⟨I1.kIn, ?_⟩) he hpl
  exact run_fnB F hr hb I1 r q fun e s' h => hx pins σ H1 s1 e s' I1 h
end
end L2
namespace L2
open PySem PySem.Spec PyProof.Rows
end L2
namespace L2
open PySem PySem.Spec PySem.Calls PyProof.Rows PySem.W Builtin Builtin.ObjectAttr Builtin.Getset_descriptor
end L2
namespace Fr
theorem absE (i : Int) : (if i < 0 then -i else i) = (i.natAbs : Int) := by omega
theorem gcd_turn (m n : Nat) : Nat.gcd n (m % n) = Nat.gcd m n := by
  rw [Nat.gcd_comm n (m % n), ← Nat.gcd_rec n m, Nat.gcd_comm]
def gcd (a b : Int) : Int := ((Nat.gcd a.natAbs b.natAbs : Nat) : Int)
theorem gcd_nn (a b : Int) : 0 ≤ gcd a b := Int.natCast_nonneg _
theorem gcd_pos {a b : Int} (h : b ≠ 0) : 0 < gcd a b := by
  unfold gcd
  have : 0 < Nat.gcd a.natAbs b.natAbs := Nat.gcd_pos_of_pos_right _ (by omega)
  omega
theorem gcd_le {a b : Int} (h : b ≠ 0) : gcd a b ≤ (b.natAbs : Int) := by
  unfold gcd
  have : Nat.gcd a.natAbs b.natAbs ≤ b.natAbs := Nat.gcd_le_right _ (by omega)
  omega
theorem gcd_dvd_l (a b : Int) : gcd a b ∣ a := by
  unfold gcd
  exact Int.ofNat_dvd_left.mpr (Nat.gcd_dvd_left _ _)
theorem gcd_dvd_r (a b : Int) : gcd a b ∣ b := by
  unfold gcd
  exact Int.ofNat_dvd_left.mpr (Nat.gcd_dvd_right _ _)
def sg (t b : Int) : Int := if b < 0 then 0 - gcd t b else gcd t b
def lt (t b : Int) : Int := t.fdiv (sg t b)
def lb (t b : Int) : Int := b.fdiv (sg t b)
theorem sg_ne {t b : Int} (h : b ≠ 0) : sg t b ≠ 0 := by
  unfold sg
  have := gcd_pos (a := t) h
  split <;> omega
theorem sg_abs {t b : Int} : (sg t b).natAbs = (gcd t b).natAbs := by
  unfold sg
  split <;> omega
theorem sg_dvd_t (t b : Int) : sg t b ∣ t := by
  unfold sg
  split
  · rw [Int.zero_sub]; exact Int.neg_dvd.mpr (gcd_dvd_l t b)
  · exact gcd_dvd_l t b
theorem sg_dvd_b (t b : Int) : sg t b ∣ b := by
  unfold sg
  split
  · rw [Int.zero_sub]; exact Int.neg_dvd.mpr (gcd_dvd_r t b)
  · exact gcd_dvd_r t b
theorem fdiv_mul {a g : Int} (h : g ∣ a) : a.fdiv g * g = a := by
  rw [Int.fdiv_eq_ediv_of_dvd h]
  exact Int.ediv_mul_cancel h
theorem lt_mul (t b : Int) : lt t b * sg t b = t := fdiv_mul (sg_dvd_t t b)
theorem lb_mul (t b : Int) : lb t b * sg t b = b := fdiv_mul (sg_dvd_b t b)
theorem lb_pos {t b : Int} (h : b ≠ 0) : 0 < lb t b := by
  have e := lb_mul t b
  have g := gcd_pos (a := t) h
  have hs : sg t b = if b < 0 then 0 - gcd t b else gcd t b := rfl
  rcases Int.lt_trichotomy (lb t b) 0 with z | z | z
  · exfalso
    by_cases hb : b < 0
    · rw [if_pos hb] at hs
      have : 0 < lb t b * sg t b := by
        rw [hs]
        exact Int.mul_pos_of_neg_of_neg z (by omega)
      omega
    · rw [if_neg hb] at hs
      have : lb t b * sg t b < 0 := by
        rw [hs]
        exact Int.mul_neg_of_neg_of_pos z g
      omega
  · rw [z] at e; omega
  · exact z
theorem log2_small {n k : Nat} (h : n < 2 ^ k) (hk : 0 < k) : n.log2 < k := by
  by_cases z : n = 0
  · subst z; simpa using hk
  · exact (Nat.log2_lt z).mpr h
theorem lb_abs {t b : Int} (h : b ≠ 0) : (lb t b).natAbs ≤ b.natAbs := by
  have e := lb_mul t b
  have g := sg_ne (t := t) h
  have h1 : (lb t b).natAbs * (sg t b).natAbs = b.natAbs := by rw [← Int.natAbs_mul, e]
  have h2 : 1 ≤ (sg t b).natAbs := by omega
  calc (lb t b).natAbs = (lb t b).natAbs * 1 := (Nat.mul_one _).symm
    _ ≤ (lb t b).natAbs * (sg t b).natAbs := Nat.mul_le_mul_left _ h2
    _ = b.natAbs := h1
end Fr
namespace Fr
theorem gcd_comm' (t b : Int) : ((b.gcd t : Nat) : Int) = gcd t b := by
  unfold gcd Int.gcd
  rw [Nat.gcd_comm]
theorem lt_num {t b : Int} (h : b ≠ 0) : lt t b = (Rat.divInt t b).num := by
  have g0 := gcd_pos (a := t) h
  rw [Rat.num_divInt, gcd_comm']
  have e := lt_mul t b
  have d : gcd t b ∣ b.sign * t := Int.dvd_mul_of_dvd_right (gcd_dvd_l t b)
  refine (Int.ediv_eq_of_eq_mul_left (by omega) ?_).symm
  have hs : sg t b = b.sign * gcd t b := by
    unfold sg
    rcases Int.lt_trichotomy b 0 with z | z | z
    · rw [if_pos z, Int.sign_eq_neg_one_of_neg z]; omega
    · exact absurd z h
    · rw [if_neg (by omega), Int.sign_eq_one_of_pos z]; omega
  have h2 : b.sign * b.sign = 1 := by
    rcases Int.lt_trichotomy b 0 with z | z | z
    · rw [Int.sign_eq_neg_one_of_neg z]; rfl
    · exact absurd z h
    · rw [Int.sign_eq_one_of_pos z]; rfl
  calc b.sign * t = b.sign * (lt t b * sg t b) := by rw [e]
    _ = (b.sign * b.sign) * (lt t b * gcd t b) := by rw [hs]; grind
    _ = lt t b * gcd t b := by rw [h2]; omega
theorem lb_den {t b : Int} (h : b ≠ 0) : lb t b = ((Rat.divInt t b).den : Int) := by
  have e1 := lt_mul t b
  have e2 := lb_mul t b
  have s0 := sg_ne (t := t) h
  have n := lt_num (t := t) h
  have c : (Rat.divInt t b).num * b = t * ((Rat.divInt t b).den : Int) := by
    have z : Rat.divInt (Rat.divInt t b).num ((Rat.divInt t b).den : Int) = Rat.divInt t b := Rat.num_divInt_den _
    have d0 : (((Rat.divInt t b).den : Nat) : Int) ≠ 0 := by
      have := (Rat.divInt t b).den_nz
      omega
    exact (Rat.divInt_eq_divInt_iff d0 h).mp z
  by_cases t0 : t = 0
  · subst t0
    have : Rat.divInt 0 b = 0 := Rat.zero_divInt b
    rw [this]
    have g : gcd 0 b = (b.natAbs : Int) := by unfold gcd; simp
    have bp := lb_pos (t := 0) h
    have a1 : (lb 0 b).natAbs * (sg 0 b).natAbs = b.natAbs := by rw [← Int.natAbs_mul, e2]
    rw [sg_abs, g] at a1
    have b0 : 0 < b.natAbs := by omega
    have a2 : (lb 0 b).natAbs = 1 := by
      have : (lb 0 b).natAbs * b.natAbs = 1 * b.natAbs := by simpa using a1
      exact Nat.eq_of_mul_eq_mul_right b0 this
    show lb 0 b = 1
    omega
  · rw [← n] at c
    have h1 : t * lb t b = t * ((Rat.divInt t b).den : Int) := by
      rw [← c]
      calc t * lb t b = (lt t b * sg t b) * lb t b := by rw [e1]
        _ = lt t b * (lb t b * sg t b) := by grind
        _ = lt t b * b := by rw [e2]
    exact Int.eq_of_mul_eq_mul_left t0 h1
theorem den_pos (q : Rat) : 0 < (q.den : Int) := by
  have := q.den_pos
  omega
theorem divInt_rat (q : Rat) : Rat.divInt q.num (q.den : Int) = q := Rat.num_divInt_den q
theorem den_ne (q : Rat) : (q.den : Int) ≠ 0 := by have := den_pos q; omega
theorem sum_rat (p q : Rat) : Rat.divInt (p.num * q.den + q.num * p.den) (p.den * q.den) = p + q := by
  rw [← Rat.divInt_add_divInt _ _ (den_ne p) (den_ne q), divInt_rat, divInt_rat]
theorem less_rat (p q : Rat) : Rat.divInt (p.num * q.den - q.num * p.den) (p.den * q.den) = p - q := by
  rw [← Rat.divInt_sub_divInt _ _ (den_ne p) (den_ne q), divInt_rat, divInt_rat]
theorem prod_rat (p q : Rat) : Rat.divInt (p.num * q.num) (p.den * q.den) = p * q := by
  rw [← Rat.divInt_mul_divInt, divInt_rat, divInt_rat]
theorem quot_rat (p q : Rat) : Rat.divInt (p.num * q.den) (p.den * q.num) = p / q := by
  rw [Rat.div_def, ← Rat.divInt_mul_divInt, divInt_rat]
  congr 1
  have := Rat.inv_divInt q.num q.den
  rw [divInt_rat] at this
  exact this.symm
theorem lt_rat (p q : Rat) : p.num * q.den < q.num * p.den ↔ p < q := (Rat.lt_iff p q).symm
theorem num_zero (q : Rat) : q.num = 0 ↔ q = 0 := Rat.num_eq_zero
end Fr
namespace Fr
theorem lt_abs (t b : Int) (h : b ≠ 0) : (lt t b).natAbs ≤ t.natAbs := by
  have e := lt_mul t b
  have g := sg_ne (t := t) h
  have h1 : (lt t b).natAbs * (sg t b).natAbs = t.natAbs := by rw [← Int.natAbs_mul, e]
  have h2 : 1 ≤ (sg t b).natAbs := by omega
  calc (lt t b).natAbs = (lt t b).natAbs * 1 := (Nat.mul_one _).symm
    _ ≤ (lt t b).natAbs * (sg t b).natAbs := Nat.mul_le_mul_left _ h2
    _ = t.natAbs := h1
end Fr
namespace L2
open PySem PySem.Spec PyProof.Rows
theorem TopFn.calN {c : Bool} {P : Program} {w : World} {K : PySem.W.Frag} {mg : Str → Option Value} {base : Heap} {x : Str} {st : Stmt} {N ps : List Str} {k : Nat} {sp : Sp} (T : TopFn K mg x st) (S : FnScope N ps (defScope st))
    (hb : ∀ (kV doc pm : Value) (an : Option Addr) (cdv ct : Value) (us : List Value), us.length = ps.length → bindArgs (PySem.W.fnOf x x (defArgs st) (defBody st) (defScope st) .none kV doc pm an cdv ct) ⟨us, []⟩ = pure (ps.zip us))
    (len : ∀ vs H Q E, sp vs H Q E → vs.length = ps.length)
    (hbody : ∀ (f : Addr) (cdv : Value) (A : Around) (outer : List Env) (s : Shared) (H : Hp) (vs : List V) (Q : VK) (E : XK), RoomB c k (A.deeper (envOfC x (defScope st) s.heap.objs.size f cdv)) → sp vs H Q E →
      ∃ t, PSs (cxB c P w K mg base N x (defScope st) f cdv A outer s H E).nox (defBody st) t ∧ t { nx := fun _ H' => Q .non H', rt := Q } (start N vs) H) : CalB P w K mg base c (k + 1) x ps sp :=
  T.calB S hb len fun f cdv A outer s H vs Q E hr h => by
    obtain ⟨t, h1, h2⟩ := hbody f cdv A outer s H vs Q E hr h
    exact ⟨t, h1.nox, h2⟩
theorem Fun.okB {c : Bool} {P : Program} {w : World} {K : PySem.W.Frag} {mg : Str → Option Value} {base : Heap} {x : Str} {st : Stmt} {f : Addr} {fd : FuncData} {N ps : List Str} {k : Nat} {sp : Sp} (F : Fun K x x st f fd) (S : FnScope N ps (defScope st))
    (len : ∀ vs H Q E, sp vs H Q E → vs.length = ps.length)
    (hbody : ∀ (cdv : Value) (A : Around) (outer : List Env) (s : Shared) (H : Hp) (vs : List V) (Q : VK) (E : XK), RoomB c k (A.deeper (envOfC x (defScope st) s.heap.objs.size f cdv)) → sp vs H Q E →
      ∃ t, PSs (cxB c P w K mg base N x (defScope st) f cdv A outer s H E).nox (defBody st) t ∧ t { nx := fun _ H' => Q .non H', rt := Q } (start N vs) H) : FnB P w K mg base c (k + 1) f fd ps sp := by
  obtain ⟨oc, od, kV, doc, pm, an, cdv, ct, osl, rfl, l, cd⟩ := id F.ex
  exact fnB_of l cd S len fun A outer s H vs Q E hr h => by
    obtain ⟨t, h1, h2⟩ := hbody cdv A outer s H vs Q E hr h
    exact ⟨t, h1.nox, h2⟩
end L2
namespace Lib
open PySem L2
def lim : Nat := 2 ^ 9000
theorem lim_log {n : Nat} (h : n < lim) : n.log2 < 9000 := Fr.log2_small h (by decide)
theorem lim_mul {n : Nat} (h : n < lim) : n < 2 ^ 10000 := Nat.lt_trans h (by unfold lim; decide +kernel)
def spDiv : Sp := fun vs H Q _ => ∃ a b : Int, vs = [.int a, .int b] ∧ Q (.int (Fr.gcd a b)) H
def spLaw (K : PySem.W.Frag) : Sp := fun vs H Q _ => ∃ (a : Addr) (ns : List Int), vs = [.ref a] ∧ SqL K H a (ns.map V.int) ∧ ns.length ≤ 63 ∧ ∀ H', Q (.bl true) H'
theorem decI (i j : Int) : decide (V.int i = V.int j) = decide (i = j) := by
  by_cases h : i = j
  · subst h; simp
  · have : ¬ V.int i = V.int j := fun z => h (V.int.inj z)
    rw [decide_eq_false h, decide_eq_false this]
theorem atI_in {xs : List V} {r : Int} (h0 : 0 ≤ r) (h1 : r < (xs.length : Int)) : ∃ v, atI xs r = some v ∧ v ∈ xs := by
  have hj : r.toNat < xs.length := by omega
  have e : ((r.toNat : Nat) : Int) = r := by omega
  have q : atI xs ((r.toNat : Nat) : Int) = some xs[r.toNat] := atI_nat (List.getElem?_eq_getElem hj)
  rw [e] at q
  exact ⟨_, q, List.getElem_mem hj⟩
theorem eqv_pair (a b c d : Int) : PyData.eqv (.tuple [.int a, .int b]) (.tuple [.int c, .int d]) = (decide (a = c) && decide (b = d)) := by
  simp only [PyData.eqv, PyData.eqvAll, Bool.and_true]
  by_cases h1 : a = c <;> by_cases h2 : b = d <;> simp [h1, h2]
end Lib
namespace Lib
open PySem L2
abbrev frO (q : Rat) : HO := .tup [.int q.num, .int (q.den : Int)]
def lim2 : Nat := 2 ^ 4000
theorem lim2_lim : lim2 < lim := by unfold lim lim2; decide +kernel
theorem lim2_sq : lim2 * lim2 + lim2 * lim2 < lim := by unfold lim lim2; decide +kernel
structure Sm (q : Rat) : Prop where
  n : q.num.natAbs < lim2
  d : q.den < lim2
theorem nat_mul_lt {a b : Nat} (ha : a < lim2) (hb : b < lim2) : a * b < lim2 * lim2 := Nat.mul_lt_mul'' ha hb
theorem mul_lim {x y : Int} (hx : x.natAbs < lim2) (hy : y.natAbs < lim2) : (x * y).natAbs < lim := by
  rw [Int.natAbs_mul]
  have := nat_mul_lt hx hy
  have := lim2_sq
  omega
theorem mulW {x y : Int} (hx : x.natAbs < lim2) (hy : y.natAbs < lim2) : CMulW x y := ⟨lim_mul (Nat.lt_trans hx lim2_lim), lim_mul (Nat.lt_trans hy lim2_lim)⟩
theorem Sm.dn {q : Rat} (h : Sm q) : ((q.den : Int)).natAbs < lim2 := by rw [Int.natAbs_natCast]; exact h.d
theorem den0 (q : Rat) : ((q.den : Nat) : Int) ≠ 0 := by have := q.den_nz; omega
theorem denp (q : Rat) : (0 : Int) < ((q.den : Nat) : Int) := by have := q.den_nz; omega
theorem den_mul0 (p q : Rat) : ((p.den : Int)) * (q.den : Int) ≠ 0 := Int.mul_ne_zero (den0 p) (den0 q)
theorem frO_of {t b : Int} (h : b ≠ 0) : (HO.tup [.int (Fr.lt t b), .int (Fr.lb t b)]) = frO (Rat.divInt t b) := by
  rw [Fr.lt_num h, Fr.lb_den h]
theorem frO_gcd (q : Rat) : Fr.gcd q.num (q.den : Int) = 1 := by
  unfold Fr.gcd
  have := q.reduced
  unfold Nat.Coprime at this
  rw [Int.natAbs_natCast, this]
  rfl
theorem eqv_fr (p q : Rat) : PyData.eqv (.tuple [.int p.num, .int (p.den : Int)]) (.tuple [.int q.num, .int (q.den : Int)]) = decide (p = q) := by
  rw [eqv_pair]
  by_cases h : p = q
  · subst h; simp
  · rw [decide_eq_false h]
    by_cases h1 : p.num = q.num
    · have h2 : ¬ ((p.den : Int) = (q.den : Int)) := fun z => h (Rat.ext h1 (Int.ofNat.inj z))
      simp [h2]
    · simp [h1]
end Lib
namespace Lib
open PySem L2
end Lib
namespace L2
open PySem PySem.Spec PyProof.Rows PySem.Builtin PySem.Builtin.Str
section
variable {X : Cx}
variable {a : Expr} {ta : TE} {es : List Expr} {tr : Str → St → Hp → VK → Prop} {p pos : Pos}
theorem call_all (hc : X.calm = true) : CallR X (.builtin "all") (fun xs H Q => ∃ (p : Addr) (bs : List Bool), xs = [.ref p] ∧ SqL X.K H p (bs.map V.bl) ∧ Q (.bl (bs.all id)) H) := by
  intro pins s σ H xs us Q I r h
  obtain ⟨p, bs, rfl, hp, q⟩ := h
  obtain ⟨u, rfl, ru⟩ := vals1 r
  cases ru
  obtain ⟨its, rv, pl, hz⟩ := I.list hp
  have hlen : its.toArray.size = bs.length := by
    have := rv.length
    rw [List.length_map] at this
    rw [List.size_toArray]; exact this.symm
  have hlt : p < s.heap.objs.size := by
    obtain ⟨o, e, _⟩ := pl.isList
    exact Heap.lt_size e
  have hh : X.A.in1.handled = none := I.ok.hd hc
  refine call_all_walk (wpAny_pyIter_list pl.isList ⟨s.heap.objs.size, _, _, _, _, _, fun i => bs.getD i false, rfl, Walks.list hh s.heap.objs.size p (Nat.ne_of_lt hlt) its.toArray, ⟨⟨_, Heap.get?_push_size _ rfl, rfl, rfl⟩, pl.isList.push _⟩, ?_, fun h' tk k => ?_⟩)
  · intro i v s1 Q1 E1 hP hQ
    have hg : its[i]? = some v := by simpa using hP
    have hb : bs[i]? = some (bs.getD i false) ∧ RelV (.bl (bs.getD i false)) v := by
      have hi : i < bs.length := by
        have := (List.getElem?_eq_some_iff.mp hg).1
        rw [← hlen, List.size_toArray]; exact this
      have e1 : (bs.map V.bl)[i]? = some (.bl (bs.getD i false)) := by
        rw [List.getElem?_map, List.getD_eq_getElem?_getD, List.getElem?_eq_getElem hi]; rfl
      obtain ⟨u, hu, ru⟩ := rv.get e1
      rw [hg] at hu
      cases hu
      refine ⟨?_, ru⟩
      rw [List.getD_eq_getElem?_getD, List.getElem?_eq_getElem hi]; rfl
    obtain ⟨_, ru⟩ := hb
    cases ru
    exact wpAny_truthy_bool hQ
  · have e : (List.range its.toArray.size).all (fun i => bs.getD i false) = bs.all id := by
      rw [hlen]
      clear hlen rv q k hp hz
      induction bs with
      | nil => rfl
      | cons b r ih =>
        rw [List.length_cons, List.range_succ_eq_map, List.all_cons, List.all_map, List.all_cons, ← ih]
        rfl
    rw [e]
    exact ⟨.bl _, H, I.kept (h' := h') (t' := tk) fun b o e => k b o (by
      intro hb
      have : b = s.heap.objs.size := by simpa using hb
      exact absurd (Heap.lt_size e) (by rw [this]; exact Nat.lt_irrefl _)) (Heap.get?_push_of_some _ e), rfl, q⟩
end
end L2
namespace L2
open PySem PySem.Spec PyProof.Rows PySem.Builtin PySem.Builtin.Str
end L2
namespace Tx
open PySem PySem.Builtin PySem.Builtin.Str PySem.NumText PyProof.Rows
end Tx
namespace Tx
open PySem PySem.Builtin PySem.Builtin.Str PySem.NumText PyProof.Rows
end Tx
namespace Lib
open PySem L2 Tx PySem.NumText
end Lib
namespace Lib
open PySem L2 Tx PySem.NumText
end Lib
namespace Tx
end Tx
namespace Lib
open PySem L2 Tx PySem.NumText
end Lib
namespace Lib
open PySem L2 Tx
def spOfG : Sp := fun vs H Q _ => ∃ t b : Int, vs = [.int t, .int b] ∧ b ≠ 0 ∧ b.natAbs < lim ∧ ∀ p, H p = none → Q (.ref p) (upd H p (.tup [.int (Fr.lt t b), .int (Fr.lb t b)]))
end Lib
namespace L2
open PySem PySem.Spec PyProof.Rows
section
variable {prog : Program} {w : World} {A : Around} {R : Result → Shared → Prop} {s : Shared}
theorem compLoop_own {elt target iter : Expr} {ifs : List Expr} {scope : Scope} {pos : Pos} {it acc : Value} {env : Env} (I : Nat → Shared → Prop)
    (turn : ∀ n s, I n s → wpAny (model prog w) A (pyNext it) (fun r s₁ => match r with
      | none => R (.ok .next) s₁
      | some v => wpAny (model prog w) A (letOwnedTupleGo target it v) (fun _ s₁' => wpAny (model prog w) A (assign target env v) (fun _ s₂ =>
          wpAny (model prog w) A (forIn ifs true fun c r => if r = true then do let ok ← isTrue c env (eval c env); pure (ForInStep.yield ok) else pure (ForInStep.yield r)) (fun ok s₃ =>
            if ok = true then wpAny (model prog w) A (eval elt env) (fun x s₄ =>
              wpAny (model prog w) A (call (.builtin "list.append") [acc, x]) (fun _ s₅ => ∃ m, m < n ∧ I m s₅) (fun _ _ => False) s₄) (fun _ _ => False) s₃
            else ∃ m, m < n ∧ I m s₃) (fun _ _ => False) s₂) (fun _ _ => False) s₁') (fun _ _ => False) s₁) (fun _ _ => False) s)
    (n : Nat) (h : I n s) :
    codeAny (model prog w) A (.compLoop (.ListComp elt [⟨target, iter, ifs, 0⟩] scope pos) 0 it acc env) R s := by
  refine codeAny_loop rfl I (fun n s hI => ?_) n h
  show wpAny _ A ((compTurn (.ListComp elt [⟨target, iter, ifs, 0⟩] scope pos) 0 it acc env).onRaise (fun x => do noteFrame x env; theTreesLotGoes x)) _ _ s
  refine wpAny_noted ?_
  rw [compTurn_list]
  refine wpAny_bind (wpAny_standAt (wpAny_bind (wpAny_mono (turn n s hI) (fun r s₁ h₁ => ?_) fun _ _ z => z.elim)))
  cases r with
  | none => exact wpAny_pure h₁
  | some v =>
    refine wpAny_bind (wpAny_mono h₁ (fun _ s₁' h₁' => ?_) fun _ _ z => z.elim)
    refine wpAny_bind (wpAny_mono h₁' (fun _ s₂ h₂ => wpAny_bind (wpAny_mono h₂ (fun ok s₃ h₃ => ?_) fun _ _ z => z.elim)) fun _ _ z => z.elim)
    cases ok with
    | false => exact wpAny_pure ⟨rfl, h₃⟩
    | true =>
      exact wpAny_bind (wpAny_bind (wpAny_mono h₃ (fun x s₄ h₄ => wpAny_bind (wpAny_mono h₄ (fun _ s₅ h₅ => wpAny_pure (wpAny_pure ⟨rfl, h₅⟩)) fun _ _ z => z.elim)) fun _ _ z => z.elim))
end
def cxC (X : Cx) (scope : Scope) (cl : List (Str × Addr)) (N' : List Str) (C : Addr) (fp : List Addr) (pins : List (Addr × Obj)) (s2 : Shared) (H2 : Hp) : Cx :=
  { X with N := N', s₀ := s2, H₀ := H2, env := compEnvC scope cl C X.env, outer := X.stack, ex := fp, fn := fun _ => false, pn := X.pn ++ pins, xe := fun _ _ => False }
structure CapOk (X : Cx) (scope : Scope) (cl : List (Str × Addr)) : Prop where
  clos : closureFor scope X.env = pure cl
  sub : ∀ y c, cl.lookup y = some c → X.env.cells.lookup y = some c
  has : ∀ y, ((relabel scope X.env).names.lookup y = some .cell ∨ (relabel scope X.env).names.lookup y = some .free) → ∃ c, cl.lookup y = some c
theorem relabel_same {scope : Scope} {env : Env} (hfree : ∀ y ∈ scope.names, y.2 ≠ .free) : (relabel scope env).names = scope.names := by
  unfold relabel
  exact map_eq_self (l := scope.names) fun x hx => by
    obtain ⟨n, k⟩ := x
    have : (k == NameKind.free) = false := by simpa using hfree _ hx
    simp [this]
theorem cap_nil {X : Cx} {scope : Scope} (hfree : ∀ y ∈ scope.names, y.2 ≠ .free) (hcell : ∀ y ∈ scope.names, y.2 ≠ .cell) : CapOk X scope [] := by
  refine ⟨closureFor_none hfree, fun y c e => (by simp at e), fun y e => ?_⟩
  rw [relabel_same hfree] at e
  exfalso
  rcases e with e | e
  · exact hcell _ (PySem.mem_of_lookup e) rfl
  · exact hfree _ (PySem.mem_of_lookup e) rfl
def capSt (caps : List (Option Nat)) (σ : St) : St := caps.map fun o => o.bind fun j => (σ[j]?).join
section
variable {X : Cx} {pins : List (Addr × Obj)} {σ : St} {H2 : Hp} {s2 : Shared} {scope : Scope} {cl : List (Str × Addr)} {N' : List Str} {C : Addr} {fp : List Addr} {caps : List (Option Nat)}
theorem notStk (I : Inv X pins σ H2 s2) {b : Addr} (h1 : b ≠ X.env.locals) (h2 : b ∉ X.fs) : b ∉ frs X.stack := fun z => (List.mem_cons.mp (I.stkSub b z)).elim h1 h2
theorem inv_comp (I : Inv X pins σ H2 s2) (hf : ∀ b ∈ fp, FpOk X pins H2 b) (hl : ∀ b ∈ fp, b < s2.heap.objs.size) (hk : scope.kind = .function) (cap : CapOk X scope cl) (hC : s2.heap.objs.size ≤ C) {s4 : Shared} (os : s4.os = s2.os) (bare : AllBare s4.gens)
    (k : ∀ b o, s2.heap.get? b = some o → s4.heap.get? b = some o) (ns : s4.heap.Ns C fun _ => none) (hN : caps.length = N'.length)
    (hcap : ∀ (i j : Nat), caps[i]? = some (some j) → ∃ y : Str, N'[i]? = some y ∧ X.N[j]? = some y ∧ (relabel scope X.env).names.lookup y = some .cell ∧ X.env.scope.names.lookup y = some .cell) :
    Inv (cxC X scope cl N' C fp pins s2 H2) [] (capSt caps σ) H2 s4 := by
  have neC : ∀ b : Addr, b < s2.heap.objs.size → b ≠ C := fun b h => Nat.ne_of_lt (Nat.lt_of_lt_of_le h hC)
  refine ⟨⟨I.ok.mod, ?_, I.ok.glob, I.ok.blt, hC, fun y z c h1 h2 => I.ok.inj y z c (cap.sub y c h1) (cap.sub z c h2), fun y h => cap.has y h, (fun y c z => nomatch z), I.ok.hd, I.ok.frames, .inl rfl, fun b hb => ⟨neC b (hl b hb), fun y c e => (hf b hb).2.2.2.2.1 y c (cap.sub y c e)⟩,
    fun b o e => I.bs b o e, Nat.le_trans I.ok.bsz I.sz, fun b o e hb => ?_, fun b hb => notStk I (hf b hb).2.1 (hf b hb).2.2.1, I.stack, I.stkFree⟩,
    os, bare, Un.kept k, ⟨_, ns, fun i y v h1 h2 h3 => ?_⟩, fun y c e => ?_, I.hok.fresh hC, fun y c e => I.freeC y c (cap.sub y c e), fun p hp => ?_, I.hok.kept k, ?_⟩
  · show (relabel scope X.env).kind = .function
    exact hk
  · rcases (hf b hb).2.2.2.1 with z | z
    · exact I.ok.noex b o e z
    · exact absurd (Nat.lt_of_lt_of_le (Heap.lt_size e) (Nat.le_trans I.ok.bsz z)) (Nat.lt_irrefl _)
  · have h1 : N'[i]? = some y := h1
    unfold capSt at h2
    rw [List.getElem?_map] at h2
    cases hc : caps[i]? with
    | none => rw [hc] at h2; cases h2
    | some o =>
      rw [hc] at h2
      cases o with
      | none => cases h2
      | some j =>
        obtain ⟨y', e1, e2, e3, e4⟩ := hcap i j hc
        rw [h1] at e1
        cases e1
        have hj : σ[j]? = some (some v) := by
          have z : (σ[j]?).join = some v := by simpa using h2
          cases q : σ[j]? with
          | none => rw [q] at z; cases z
          | some w' => rw [q] at z; exact congrArg some z
        obtain ⟨m, hn, hm⟩ := I.loc
        obtain ⟨u, ru, lk⟩ := hm j y v e2 hj (.inr (.inl e4))
        refine ⟨u, ru, .inr ⟨.inl e3, ?_⟩⟩
        rcases lk with ⟨z, _⟩ | ⟨_, c, ec, o', ho', hd'⟩
        · rw [show X.env.kindOf y = X.env.scope.names.lookup y from rfl, e4] at z; cases z
        · obtain ⟨c', ec'⟩ := cap.has y (.inl e3)
          have := cap.sub y c' ec'
          rw [ec] at this
          cases this
          exact ⟨c, ec', o', k _ _ ho', hd'⟩
  · obtain ⟨v, o, ho, hd⟩ := I.cell y c (cap.sub y c e)
    exact ⟨v, o, k _ _ ho, hd⟩
  · have hp : p ∈ (X.pn ++ pins) ++ [] := hp
    rw [List.append_nil] at hp
    obtain ⟨e, n, ne, nf, d⟩ := I.pin p hp
    exact ⟨k _ _ e, n, neC _ (Heap.lt_size e), notStk I ne nf, d⟩
  · show (capSt caps σ).length = N'.length
    unfold capSt
    rw [List.length_map]
    exact hN
theorem comp_end {pl : List (Addr × Obj)} {σ' : St} {H' : Hp} {s' : Shared} {D : Addr} {items : Array Value} {ys : List V} {h'' : Heap} (I : Inv X pins σ H2 s2) (hf : ∀ b ∈ fp, FpOk X pins H2 b) (I' : Inv (cxC X scope cl N' C fp pins s2 H2) pl σ' H' s')
    (hpl : s'.heap.PlainList D items) (nD : H' D = none) (newD : s2.heap.get? D = none) (hDC : D ≠ C) (rv : Vals ys items.toList) (hz : ys.length ≤ sizeLine) (sb : Heap.SameBut C s'.heap h'') : Inv X pins σ (upd H' D (.lst ys)) { s' with heap := h'' } := by
  have hC : s2.heap.objs.size ≤ C := I'.ok.above
  have neC : ∀ b o, s2.heap.get? b = some o → b ≠ C := fun b o e => Nat.ne_of_lt (Nat.lt_of_lt_of_le (Heap.lt_size e) hC)
  have nC : H' C = none := I'.free
  obtain ⟨n0, ho⟩ := hpl
  refine I.call' (s' := { s' with heap := h'' }) (ch := fp) I'.os ⟨fun b o e n hb hx => sb.extBut b o (neC b o e) (I'.base.keep b o e n hb hx), fun b o e n hb hx => ?_, fun b o e n hx => ?_, fun b o e hx => ?_, fun b xs e => ?_, fun b o u e => ?_, fun b ps e => ?_⟩ (fun b o e => ?_) I'.bare fun b hb => ?_
  · obtain ⟨sl, q⟩ := I'.base.slot b o e n hb hx
    exact ⟨sl, sb.extBut b _ (neC b o e) q⟩
  · have : b ≠ D := fun z => by rw [z, newD] at e; cases e
    rw [upd_ne this]
    exact I'.base.free b o e n hx
  · obtain ⟨o', q⟩ := I'.base.there b o e hx
    exact ⟨o', sb.extBut b _ (neC b o e) q⟩
  · have q := I'.base.tups b xs e
    rw [upd_ne (ne_of_none q nD)]; exact q
  · have q := I'.base.frzs b o u e
    rw [upd_ne (ne_of_none q nD)]; exact q
  · obtain ⟨m, q⟩ := I'.base.tbls b ps e
    exact ⟨m, by rw [upd_ne (ne_of_none q nD)]; exact q⟩
  · by_cases hb : b = D
    · subst hb
      rw [upd_same] at e
      cases e
      exact ⟨hz, items.toList, n0, rv, sb.extBut _ _ hDC ho⟩
    · rw [upd_ne hb] at e
      refine (I'.hok b o e).stay (fun c v hc q => sb.extBut c v ?_ q) (fun c q => by rw [upd_ne (ne_of_none q nD)]; exact q) fun c xs q => by rw [upd_ne (ne_of_none q nD)]; exact q
      intro z
      subst z
      rcases hc with z | z
      · rw [← z, nC] at e; cases e
      · rw [nC] at z; cases z
  · obtain ⟨f0, f1, f2, f3, f4, f5⟩ := hf b hb
    exact ⟨f3, f1, f4, f5⟩
end
def PIfs (X : Cx) (ifs : List Expr) (t : TT) : Prop :=
  ∀ (pins : List (Addr × Obj)) (s : Shared) (σ : St) (H : Hp) (Q : Bool → Hp → Prop), Inv X pins σ H s → t σ H Q →
    wpAny (model X.prog X.w) X.A (forIn ifs true fun c r => if r = true then do let ok ← isTrue c X.env (eval c X.env); pure (ForInStep.yield ok) else pure (ForInStep.yield r)) (TP X pins σ Q) X.xe s
def tYes : TT := fun _ H Q => Q true H
theorem pifs_nil {X : Cx} : PIfs X [] tYes := fun pins s σ H Q I h => by
  simp only [List.forIn_nil]
  exact wpAny_pure ⟨H, I, h⟩
theorem pifs_one {X : Cx} {c : Expr} {t : TT} (hc : PT X c t) : PIfs X [c] t := fun pins s σ H Q I h => by
  simp only [List.forIn_cons, List.forIn_nil, if_true]
  exact wpAny_bind (wpAny_bind (wpAny_mono (hc pins s σ H Q I h) (fun b s' hb => wpAny_pure (wpAny_pure hb)) fun _ _ x => x))
def tCompB (g : TG) (tt : TT) (te : TE) (J : It) (σ : St) (H1 : Hp) (Q : VK) : Prop := ∃ W : Nat → Nat → St → List V → Hp → Prop, (∃ m, W 0 m σ [] H1) ∧ ∀ i m σ' ys H, W i m σ' ys H → ys.length ≤ sizeLine ∧
  ((J.stop i H ∧ ∀ p, H p = none → Q (.ref p) (upd H p (.lst ys))) ∨
   (J.go i H ∧ ∀ x H', J.yld i H x H' → g x σ' H' fun σ2 H2 => tt σ2 H2 fun b H3 => if b = true then te σ2 H3 fun y H4 => ∃ m', m' < m ∧ W (i + 1) m' σ2 (ys ++ [y]) H4 else ∃ m', m' < m ∧ W (i + 1) m' σ2 ys H3))
def tComp (wi : TI) (g : TG) (tt : TT) (te : TE) (caps : List (Option Nat)) : TE := fun σ H Q => wi σ H fun J H1 => tCompB g tt te J (capSt caps σ) H1 Q
theorem comp_run {X : Cx} {tg elt iter : Expr} {ifs : List Expr} {scope : Scope} {pos : Pos} {wi : TI} {g : TG} {tt : TT} {te : TE} {cl : List (Str × Addr)} (N' : List Str) (caps : List (Option Nat)) (hc : X.calm = true) (hi : PI X tg iter wi)
    (hg : ∀ C fp pins s2 H2, PG (cxC X scope cl N' C fp pins s2 H2) tg g) (ht : ∀ C fp pins s2 H2, PIfs (cxC X scope cl N' C fp pins s2 H2) ifs tt) (he : ∀ C fp pins s2 H2, PE (cxC X scope cl N' C fp pins s2 H2) elt te)
    (cap : CapOk X scope cl) (hcell : ∀ y ∈ scope.names, y.2 ≠ .cell) (hkind : scope.kind = .function) (hnames : ∀ y ∈ scope.names, y.2 = .local → scope.names.lookup y.1 = some .local) (hN : caps.length = N'.length)
    (hcap : ∀ (i j : Nat), caps[i]? = some (some j) → ∃ y : Str, N'[i]? = some y ∧ X.N[j]? = some y ∧ (relabel scope X.env).names.lookup y = some .cell ∧ X.env.scope.names.lookup y = some .cell)
    (hs : ∀ x, foldedSetIterable iter X.env x = pure x) {pins : List (Addr × Obj)} {s : Shared} {σ : St} {H : Hp} {Q : VK} {use : Option (Value → Sem Unit)} {QQ : Value → Shared → Prop}
    (fin : ∀ (C D : Addr) (fp : List Addr) (s2 s4 : Shared) (H2 H4 : Hp) (pl : List (Addr × Obj)) (σ' : St) (items : Array Value) (ys : List V), Inv X pins σ H2 s2 → (∀ b ∈ fp, FpOk X pins H2 b) → Inv (cxC X scope cl N' C fp pins s2 H2) pl σ' H4 s4 → s4.heap.PlainList D items → H4 D = none → s2.heap.get? D = none → D ≠ C →
      Vals ys items.toList → ys.length ≤ sizeLine → (∀ p, H4 p = none → Q (.ref p) (upd H4 p (.lst ys))) → compPost (model X.prog X.w) X.A X.xe use QQ (.ref D) C (.ok .next) s4)
    (I : Inv X pins σ H s) (h : tComp wi g tt te caps σ H Q) : wpAny (model X.prog X.w) X.A (comprehension (.ListComp elt [⟨tg, iter, ifs, 0⟩] scope pos) scope X.env (firstIterPos [⟨tg, iter, ifs, 0⟩] pos) (newList []) false (eval iter X.env) use) QQ X.xe s := by
  refine wpAny_comprehension_free (use := use) rfl hs cap.clos hkind hnames (thn (hi pins s σ H _ I h) fun xv s₁ h₁ => thn h₁ fun itv s₂ h₂ => ?_)
  obtain ⟨it, fp, tn, J, H2, rfl, I2, T, st2, f2, W, ⟨m0, w0⟩, turn⟩ := h₂
  have hfp : ∀ b ∈ fp, b < s₂.heap.objs.size := fun b hb => by obtain ⟨o, e, _⟩ := T.obj _ _ st2 b hb; exact Heap.lt_size e
  refine wpAny_newObj_type (wpAny_newFunctionEnv hcell (by intro y hy; simp at hy) (fun h₁ hns₁ hsb₁ => ?_) hkind)
  dsimp only at hns₁ hsb₁ ⊢
  generalize hH2 : s₂.heap.push { cls := .type "list", dict := none, data := .seq ([] : List Value).toArray } = H2' at hns₁ hsb₁ ⊢
  have hC : H2'.objs.size = s₂.heap.objs.size + 1 := by rw [← hH2, Heap.size_push]
  have hDC : s₂.heap.objs.size ≠ H2'.objs.size := by rw [hC]; exact Nat.ne_of_lt (Nat.lt_succ_self _)
  have hCle : s₂.heap.objs.size ≤ H2'.objs.size := by rw [hC]; exact Nat.le_succ _
  have below : ∀ b, b < s₂.heap.objs.size → b ≠ H2'.objs.size := fun b hb => by rw [hC]; exact Nat.ne_of_lt (Nat.lt_succ_of_lt hb)
  have old : ∀ b o, s₂.heap.get? b = some o → h₁.get? b = some o := fun b o e => hsb₁.extBut b o (below b (Heap.lt_size e)) (Heap.get?_push_of_some _ (hH2 ▸ Heap.get?_push_of_some _ e))
  have hacc : h₁.PlainList s₂.heap.objs.size #[] := ⟨_, hsb₁.extBut _ _ hDC (Heap.get?_push_of_some _ (hH2 ▸ Heap.get?_push_size _ rfl))⟩
  have newD : s₂.heap.get? s₂.heap.objs.size = none := Heap.get?_none_of_le (Nat.le_refl _)
  have nD2 : H2 s₂.heap.objs.size = none := I2.hok.fresh (Nat.le_refl _)
  generalize hDD : s₂.heap.objs.size = D at *
  generalize hCC : H2'.objs.size = C at *
  have fpD : ∀ b ∈ fp, b ≠ D := fun b hb => Nat.ne_of_lt (hfp b hb)
  have statX : ∀ {H' : Hp} {pl : List (Addr × Obj)}, (∀ p ∈ pl, p.1 = D) → (∀ b ∈ fp, H' b = none) → ∀ b ∈ fp, FpOk (cxC X scope cl N' C fp pins s₂ H2) pl H' b := fun {H' pl} hpl hn b hb => by
    obtain ⟨f0, f1, f2', f3, f4, f5⟩ := f2 b hb
    refine ⟨hn b hb, below b (hfp b hb), notStk I2 f1 f2', .inl hb, fun y c e => f4 y c (cap.sub y c e), fun p hp => ?_⟩
    rcases List.mem_append.mp hp with hp | hp
    · exact f5 p hp
    · rw [hpl p hp]; exact (fpD b hb).symm
  have ht' : ∀ n s', (∃ i σ' ys, ∃ (items : Array Value), ∃ H', Inv (cxC X scope cl N' C fp pins s₂ H2) [] σ' H' s' ∧ tn i s'.heap ∧ (∀ b ∈ fp, H' b = none) ∧ s'.heap.PlainList D items ∧ Vals ys items.toList ∧ H' D = none ∧ W i n σ' ys H') →
      wpAny (model X.prog X.w) X.A (pyNext (.ref it)) (fun r s₁ => match r with
      | none => compPost (model X.prog X.w) X.A X.xe use QQ (.ref D) C (.ok .next) s₁
      | some v => wpAny (model X.prog X.w) X.A (letOwnedTupleGo tg (.ref it) v) (fun _ s₁' => wpAny (model X.prog X.w) X.A (assign tg (compEnvC scope cl C X.env) v) (fun _ s₂' =>
          wpAny (model X.prog X.w) X.A (forIn ifs true fun c r => if r = true then do let ok ← isTrue c (compEnvC scope cl C X.env) (eval c (compEnvC scope cl C X.env)); pure (ForInStep.yield ok) else pure (ForInStep.yield r)) (fun ok s₃ =>
            if ok = true then wpAny (model X.prog X.w) X.A (eval elt (compEnvC scope cl C X.env)) (fun x s₄ =>
              wpAny (model X.prog X.w) X.A (call (.builtin "list.append") [.ref D, x]) (fun _ s₅ => ∃ m, m < n ∧ ∃ i σ' ys, ∃ (items : Array Value), ∃ H', Inv (cxC X scope cl N' C fp pins s₂ H2) [] σ' H' s₅ ∧ tn i s₅.heap ∧ (∀ b ∈ fp, H' b = none) ∧ s₅.heap.PlainList D items ∧ Vals ys items.toList ∧ H' D = none ∧ W i m σ' ys H') (fun _ _ => False) s₄) (fun _ _ => False) s₃
            else ∃ m, m < n ∧ ∃ i σ' ys, ∃ (items : Array Value), ∃ H', Inv (cxC X scope cl N' C fp pins s₂ H2) [] σ' H' s₃ ∧ tn i s₃.heap ∧ (∀ b ∈ fp, H' b = none) ∧ s₃.heap.PlainList D items ∧ Vals ys items.toList ∧ H' D = none ∧ W i m σ' ys H') (fun _ _ => False) s₂') (fun _ _ => False) s₁') (fun _ _ => False) s₁) (fun _ _ => False) s' := by
    rintro n s3 ⟨i, σ3, ys, items, H3, I3, st3, fr3, pl3, rv3, nD3, w3⟩
    obtain ⟨hz, hw⟩ := turn i n σ3 ys H3 w3
    obtain ⟨n0, ho⟩ := id pl3
    have nfsD : D ∉ frs X.stack := fun z => by
      obtain ⟨_, o, e, _⟩ := I2.stack.mem z
      rw [newD] at e; cases e
    have I3p : Inv (cxC X scope cl N' C fp pins s₂ H2) [(D, { cls := .type "list", data := .seq items n0 })] σ3 H3 s3 := I3.pins_of fun p hp => by
      have e : p = (D, { cls := .type "list", data := .seq items n0 }) := by simpa using hp
      subst e
      exact ⟨ho, nD3, hDC, nfsD, fun v z => by cases z⟩
    have one : ∀ p ∈ [(D, ({ cls := .type "list", data := .seq items n0 } : Obj))], p.1 = D := fun p hp => by
      have e : p = (D, { cls := .type "list", data := .seq items n0 }) := by simpa using hp
      subst e; rfl
    rcases hw with ⟨stop, qn⟩ | ⟨go, step⟩
    · refine thn (T.done (cxC X scope cl N' C fp pins s₂ H2) rfl rfl rfl hc i _ s3 σ3 H3 (fun _ _ => False) I3p (statX one fr3) st3 stop) fun r s4 ⟨hr, I4⟩ => ?_
      subst hr
      obtain ⟨e4, nD4, _⟩ := I4.pin _ (List.mem_append_right _ (List.mem_singleton.mpr rfl))
      exact fin C D fp s₂ s4 H2 H3 _ σ3 items ys I2 f2 I4 ⟨n0, e4⟩ nD4 (hDD ▸ newD) hDC rv3 hz qn
    · refine thn (T.item (cxC X scope cl N' C fp pins s₂ H2) rfl rfl rfl hc i _ s3 σ3 H3 (fun _ _ => False) I3p (statX one fr3) st3 go) fun r s4 ⟨u, hr, h4⟩ => ?_
      subst hr
      refine thn h4 fun _ s5 ⟨x, H5, I5, r5, y5, st5, fr5⟩ => ?_
      have I5' := I5.pinned (statX one fr5) (T.obj _ _ st5)
      refine thn (hg C fp pins s₂ H2 _ s5 σ3 H5 x u _ I5' r5 (step x H5 y5)) fun _ s6 ⟨σ6, H6, I6, q6⟩ => ?_
      refine thn (ht C fp pins s₂ H2 _ s6 σ6 H6 _ I6 q6) fun b s7 ⟨H7, I7, q7⟩ => ?_
      have back : ∀ {H8 : Hp} {s8 : Shared}, Inv (cxC X scope cl N' C fp pins s₂ H2) ([(D, ({ cls := .type "list", data := .seq items n0 } : Obj))] ++ pinsAt fp s5.heap) σ6 H8 s8 →
          Inv (cxC X scope cl N' C fp pins s₂ H2) [] σ6 H8 s8 ∧ tn (i + 1) s8.heap ∧ (∀ b ∈ fp, H8 b = none) ∧ s8.heap.PlainList D items ∧ H8 D = none := fun {H8 s8} I8 => by
        refine ⟨I8.pins_of (fun p hp => nomatch hp), T.keep _ _ _ st5 fun b hb o e => (I8.pin (b, o) (List.mem_append_right _ (List.mem_append_right _ (mem_pinsAt hb e)))).1, fun b hb => ?_, ?_, ?_⟩
        · obtain ⟨o, e, d⟩ := T.obj _ _ st5 b hb
          exact (I8.pin (b, o) (List.mem_append_right _ (List.mem_append_right _ (mem_pinsAt hb e)))).2.1
        · exact ⟨n0, (I8.pin _ (List.mem_append_right _ (List.mem_append_left _ (List.mem_singleton.mpr rfl)))).1⟩
        · exact (I8.pin _ (List.mem_append_right _ (List.mem_append_left _ (List.mem_singleton.mpr rfl)))).2.1
      cases b with
      | false =>
        rw [if_neg Bool.false_ne_true] at q7
        obtain ⟨m', hm, w7⟩ := q7
        obtain ⟨J1, J2, J3, J4, J5⟩ := back I7
        rw [if_neg Bool.false_ne_true]
        exact ⟨m', hm, i + 1, σ6, ys, items, H7, J1, J2, J3, J4, rv3, J5, w7⟩
      | true =>
        rw [if_pos rfl] at q7
        rw [if_pos rfl]
        refine thn (he C fp pins s₂ H2 _ s7 σ6 H7 _ I7 q7) fun v s8 ⟨y, H8, I8, r8, m', hm, w8⟩ => ?_
        obtain ⟨J1, J2, J3, J4, J5⟩ := back I8
        have hit : items.size ≤ sizeLine := by
          have e : ys.length = items.size := by simpa using rv3.length
          omega
        refine wpAny_list_append_plain (hsz := hit) J4 fun h9 hl9 hs9 => ?_
        have nc : ∀ y c, cl.lookup y = some c → c ≠ D := fun y c e z => by
          obtain ⟨v, o, ho, _⟩ := I2.cell y c (cap.sub y c e)
          rw [z, newD] at ho; cases ho
        have np : ∀ p ∈ (X.pn ++ pins) ++ [], p.1 ≠ D := fun p hp z => by
          rw [List.append_nil] at hp
          have e := (I2.pin p hp).1
          rw [z, newD] at e; cases e
        have J9 : Inv (cxC X scope cl N' C fp pins s₂ H2) [] σ6 H8 { s8 with heap := h9 } := J1.turned (it := D) (t' := s8.toks) (fun b o hb e => hs9.extBut b o hb e) J5 hDC (.inr (Nat.le_of_eq hDD)) nc np
        refine ⟨m', hm, i + 1, σ6, ys ++ [y], items.push v, H8, J9, T.keep _ _ _ J2 fun b hb o e => hs9.extBut b o (fpD b hb) e, J3, hl9, ?_, J5, w8⟩
        rw [Array.toList_push]
        exact rv3.append (.cons r8 .nil)
  have I0 : Inv (cxC X scope cl N' C fp pins s₂ H2) [] (capSt caps σ) H2 { s₂ with heap := h₁, toks := s₂.toks + ([] : List (Str × Value)).length } :=
    inv_comp I2 f2 (fun b hb => hDD ▸ hfp b hb) hkind cap (by rw [hDD]; exact hCle) rfl I2.bare old hns₁ hN hcap
  have st0 : tn 0 h₁ := T.keep _ _ _ st2 fun b _ o e => old b o e
  have loop : ∀ s₃ : Shared, s₃ = { s₂ with heap := h₁, toks := s₂.toks + ([] : List (Str × Value)).length } →
      codeAny (model X.prog X.w) X.A (.compLoop (.ListComp elt [⟨tg, iter, ifs, 0⟩] scope pos) 0 (.ref it) (.ref D) (compEnvC scope cl C X.env)) (compPost (model X.prog X.w) X.A X.xe use QQ (.ref D) C) s₃ := by
    rintro s₃ rfl
    exact compLoop_own _ ht' m0 ⟨0, _, [], #[], H2, I0, st0, fun b hb => (f2 b hb).1, hacc, .nil, nD2, w0⟩
  exact codeAny_compStart_list (loop _ rfl) (T.self X.A 0 _ _ _ st0 (loop _ rfl))
theorem pe_comp {X : Cx} {tg elt iter : Expr} {ifs : List Expr} {scope : Scope} {pos : Pos} {wi : TI} {g : TG} {tt : TT} {te : TE} {cl : List (Str × Addr)} (N' : List Str) (caps : List (Option Nat)) (hc : X.calm = true) (hi : PI X tg iter wi)
    (hg : ∀ C fp pins s2 H2, PG (cxC X scope cl N' C fp pins s2 H2) tg g) (ht : ∀ C fp pins s2 H2, PIfs (cxC X scope cl N' C fp pins s2 H2) ifs tt) (he : ∀ C fp pins s2 H2, PE (cxC X scope cl N' C fp pins s2 H2) elt te)
    (cap : CapOk X scope cl) (hcell : ∀ y ∈ scope.names, y.2 ≠ .cell) (hkind : scope.kind = .function) (hnames : ∀ y ∈ scope.names, y.2 = .local → scope.names.lookup y.1 = some .local) (hN : caps.length = N'.length)
    (hcap : ∀ (i j : Nat), caps[i]? = some (some j) → ∃ y : Str, N'[i]? = some y ∧ X.N[j]? = some y ∧ (relabel scope X.env).names.lookup y = some .cell ∧ X.env.scope.names.lookup y = some .cell)
    (hs : ∀ x, foldedSetIterable iter X.env x = pure x := by intro _; rfl) :
    PE X (.ListComp elt [⟨tg, iter, ifs, 0⟩] scope pos) (tComp wi g tt te caps) := by
  intro pins s σ H Q I h
  rw [eval_ListComp]
  refine comp_run (use := none) N' caps hc hi hg ht he cap hcell hkind hnames hN hcap hs (fun C D fp s2 s4 H2 H4 pl σ' items ys I2 f2 I4 hpl nD newD hDC rv hz qn => ?_) I h
  obtain ⟨m, hn, _⟩ := I4.loc
  exact ⟨m, hn, fun h' sb => ⟨.ref D, _, comp_end I2 f2 I4 hpl nD newD hDC rv hz sb, rfl, qn D nD⟩⟩
def tSetC (i : Nat) (t : TE) : TS := fun D σ H => t σ H fun v H1 => D.nx (σ.set i (some v)) H1
theorem ps_comp {X : Cx} {tg elt iter : Expr} {ifs : List Expr} {scope : Scope} {pos spos py : Pos} {wi : TI} {g : TG} {tt : TT} {te : TE} {cl : List (Str × Addr)} {y : Str} {i : Nat} (hND : X.N.Nodup) (hiy : X.N[i]? = some y) (hy : Loc X.env.scope y) (N' : List Str) (caps : List (Option Nat)) (hc : X.calm = true) (hi : PI X tg iter wi)
    (hg : ∀ C fp pins s2 H2, PG (cxC X scope cl N' C fp pins s2 H2) tg g) (ht : ∀ C fp pins s2 H2, PIfs (cxC X scope cl N' C fp pins s2 H2) ifs tt) (he : ∀ C fp pins s2 H2, PE (cxC X scope cl N' C fp pins s2 H2) elt te)
    (cap : CapOk X scope cl) (hcell : ∀ y ∈ scope.names, y.2 ≠ .cell) (hkind : scope.kind = .function) (hnames : ∀ y ∈ scope.names, y.2 = .local → scope.names.lookup y.1 = some .local) (hN : caps.length = N'.length)
    (hcap : ∀ (i j : Nat), caps[i]? = some (some j) → ∃ y : Str, N'[i]? = some y ∧ X.N[j]? = some y ∧ (relabel scope X.env).names.lookup y = some .cell ∧ X.env.scope.names.lookup y = some .cell)
    (hs : ∀ x, foldedSetIterable iter X.env x = pure x := by intro _; rfl) (hsw : swapsWith (.ListComp elt [⟨tg, iter, ifs, 0⟩] scope pos) (some (.Name y py)) spos.line X.env = pure true := by rfl)
    (hfn : X.fn y = true ∨ X.env.scope.names.lookup y = some .local := by first | exact .inl rfl | exact .inr rfl | assumption) :
    PS X (.Assign [.Name y py] (.ListComp elt [⟨tg, iter, ifs, 0⟩] scope pos) spos) (tSetC i (tComp wi g tt te caps)) := by
  intro pins s σ H D I h
  rw [exec_Assign_Name_used _ _ _ _ hsw]
  refine wpAny_bind (wpAny_standAt (wpAny_bind ?_))
  show wpAny _ X.A (do let _ ← comprehension (.ListComp elt [⟨tg, iter, ifs, 0⟩] scope pos) scope X.env _ (newList []) false (eval iter X.env) (some (assign (.Name y py) X.env))) _ _ s
  refine wpAny_bind (wpAny_mono (comp_run (use := some (assign (.Name y py) X.env)) (QQ := fun _ s' => SP X pins D .next s') N' caps hc hi hg ht he cap hcell hkind hnames hN hcap hs
    (fun C Dl fp s2 s4 H2 H4 pl σ' items ys I2 f2 I4 hpl nD newD hDC rv hz qn => ?_) I h) (fun _ s' hq => wpAny_pure (wpAny_pure hq)) fun _ _ e => e)
  have hC : s2.heap.objs.size ≤ C := I4.ok.above
  obtain ⟨m, hn, _⟩ := I4.loc
  obtain ⟨oC, es, ep, hoC, hdC, hrest⟩ := id hn
  have J : Inv X pins σ (upd H4 Dl (.lst ys)) s4 := comp_end I2 f2 I4 hpl nD newD hDC rv hz (Heap.SameBut.refl ..)
  have nC : upd H4 Dl (.lst ys) C = none := by rw [upd_ne (Ne.symm hDC)]; exact I4.free
  have c1 : C ≠ X.env.locals := Nat.ne_of_gt (Nat.lt_of_lt_of_le I2.lt hC)
  have c2 : C ∉ X.fs := I2.nofs hC
  have J1 : Inv X (pins ++ [(C, oC)]) σ (upd H4 Dl (.lst ys)) s4 := J.pins_of fun p hp => by
    rcases List.mem_append.mp hp with hp | hp
    · exact J.pin p (List.mem_append_right _ hp)
    · have e : p = (C, oC) := by simpa using hp
      subst e
      exact ⟨hoC, nC, c1, c2, fun v z => by rw [hdC] at z; cases z⟩
  show wpAny _ X.A (assign (.Name y py) X.env (.ref Dl)) _ _ s4
  refine wpAny_assign_Name (store_ok J1 hND hiy hy (show RelV (.ref Dl) (Value.ref Dl) from rfl) (fun s5 J5 => ?_) hfn)
  obtain ⟨e5, _⟩ := J5.pin (C, oC) (List.mem_append_right _ (List.mem_append_right _ (List.mem_singleton.mpr rfl)))
  refine ⟨m, ⟨oC, es, ep, e5, hdC, hrest⟩, fun h' sb => ?_⟩
  have J6 : Inv X pins (σ.set i (some (.ref Dl))) (upd H4 Dl (.lst ys)) s5 := J5.unpinned
  refine ⟨_, _, J6.turned (it := C) (t' := s5.toks) (fun b o hb e => sb.extBut b o hb e) nC c1 (.inr (Nat.le_trans I2.sz hC)) (fun x c e z => ?_) (fun p hp z => ?_), qn Dl nD⟩
  · obtain ⟨v, o, ho, _⟩ := I2.cell x c e
    exact absurd (Heap.lt_size ho) (by rw [z]; exact Nat.not_lt.mpr hC)
  · have e := (I2.pin p hp).1
    exact absurd (Heap.lt_size e) (by rw [z]; exact Nat.not_lt.mpr hC)
end L2
namespace L2
open PySem PySem.Spec PyProof.Rows
theorem SqT.keep {K : PySem.W.Frag} {H H' : Hp} {a : Addr} {xs : List V} (s : Same H H') (h : SqT K H a xs) : SqT K H' a xs := by
  rcases h with (h | ⟨o, h⟩) | h
  · exact .inl (.inl (s _ _ h))
  · exact .inl (.inr ⟨o, s _ _ h⟩)
  · exact .inr h
theorem SqL.keep {K : PySem.W.Frag} {H H' : Hp} {a : Addr} {xs : List V} (s : Same H H') (h : SqL K H a xs) : SqL K H' a xs := s.seq h
mutual
theorem DV.keep {K : PySem.W.Frag} {H H' : Hp} (s : Same H H') : ∀ {v : V} {d : PyData}, DV K H v d → DV K H' v d
  | _, _, .non => .non
  | _, _, .bl b => .bl b
  | _, _, .int i => .int i
  | _, _, .str x => .str x
  | _, _, .lst h q => .lst (h.keep s) (DVs.keep s q)
  | _, _, .tup h q => .tup (h.keep s) (DVs.keep s q)
  | _, _, .dct h => .dct (s _ _ h)
theorem DVs.keep {K : PySem.W.Frag} {H H' : Hp} (s : Same H H') : ∀ {vs : List V} {ds : List PyData}, DVs K H vs ds → DVs K H' vs ds
  | _, _, .nil => .nil
  | _, _, .cons h q => .cons (DV.keep s h) (DVs.keep s q)
end
section
variable {K : PySem.W.Frag} {H : Hp} {v : V} {vs : List V} {d d1 d2 d3 d4 : PyData} {ds : List PyData}
theorem DVs.len : ∀ {vs : List V} {ds : List PyData}, DVs K H vs ds → vs.length = ds.length
  | _, _, .nil => rfl
  | _, _, .cons _ q => by rw [List.length_cons, List.length_cons, DVs.len q]
theorem DVs.cons_of (h : DVs K H vs (d :: ds)) : ∃ x xs, vs = x :: xs ∧ DV K H x d ∧ DVs K H xs ds := by
  cases h with
  | cons h q => exact ⟨_, _, rfl, h, q⟩
theorem DV.tup_of (h : DV K H v (.tuple ds)) : ∃ a xs, v = .ref a ∧ SqT K H a xs ∧ DVs K H xs ds := by
  cases h with
  | tup h q => exact ⟨_, _, rfl, h, q⟩
theorem DV.lst_of (h : DV K H v (.list ds)) : ∃ a xs, v = .ref a ∧ SqL K H a xs ∧ DVs K H xs ds := by
  cases h with
  | lst h q => exact ⟨_, _, rfl, h, q⟩
theorem DVs.one (h : DVs K H vs [d1]) : ∃ x, vs = [x] ∧ DV K H x d1 := by
  cases h with
  | cons h q => cases q; exact ⟨_, rfl, h⟩
theorem DVs.two (h : DVs K H vs [d1, d2]) : ∃ x y, vs = [x, y] ∧ DV K H x d1 ∧ DV K H y d2 := by
  cases h with
  | cons h q =>
    obtain ⟨y, rfl, hy⟩ := q.one
    exact ⟨_, _, rfl, h, hy⟩
theorem DVs.three (h : DVs K H vs [d1, d2, d3]) : ∃ x y z, vs = [x, y, z] ∧ DV K H x d1 ∧ DV K H y d2 ∧ DV K H z d3 := by
  cases h with
  | cons h q =>
    obtain ⟨y, z, rfl, hy, hz⟩ := q.two
    exact ⟨_, _, _, rfl, h, hy, hz⟩
theorem DVs.four (h : DVs K H vs [d1, d2, d3, d4]) : ∃ x y z u, vs = [x, y, z, u] ∧ DV K H x d1 ∧ DV K H y d2 ∧ DV K H z d3 ∧ DV K H u d4 := by
  cases h with
  | cons h q =>
    obtain ⟨y, z, u, rfl, hy, hz, hu⟩ := q.three
    exact ⟨_, _, _, _, rfl, h, hy, hz, hu⟩
theorem DV.t2 (h : DV K H v (.tuple [d1, d2])) : ∃ a x y, v = .ref a ∧ SqT K H a [x, y] ∧ DV K H x d1 ∧ DV K H y d2 := by
  obtain ⟨a, xs, rfl, ha, q⟩ := h.tup_of
  obtain ⟨x, y, rfl, hx, hy⟩ := q.two
  exact ⟨a, x, y, rfl, ha, hx, hy⟩
theorem DV.t3 (h : DV K H v (.tuple [d1, d2, d3])) : ∃ a x y z, v = .ref a ∧ SqT K H a [x, y, z] ∧ DV K H x d1 ∧ DV K H y d2 ∧ DV K H z d3 := by
  obtain ⟨a, xs, rfl, ha, q⟩ := h.tup_of
  obtain ⟨x, y, z, rfl, hx, hy, hz⟩ := q.three
  exact ⟨a, x, y, z, rfl, ha, hx, hy, hz⟩
theorem DV.int_of {i : Int} (h : DV K H v (.int i)) : v = .int i := by cases h; rfl
theorem DV.str_of {x : Str} (h : DV K H v (.str x)) : v = .str x := by cases h; rfl
theorem DV.bl_of {b : Bool} (h : DV K H v (.bool b)) : v = .bl b := by cases h; rfl
theorem DV.non_of (h : DV K H v .none) : v = .non := by cases h; rfl
theorem DVs.get : ∀ {vs : List V} {ds : List PyData} {i : Nat} {v : V}, DVs K H vs ds → vs[i]? = some v → ∃ d, ds[i]? = some d ∧ DV K H v d
  | _, _, _, _, .nil, e => by simp at e
  | _, _, 0, _, .cons h _, e => by simp at e; subst e; exact ⟨_, rfl, h⟩
  | _, _, i + 1, v, .cons _ q, e => by
    obtain ⟨d, h1, h2⟩ := DVs.get (i := i) (v := v) q (by simpa using e)
    exact ⟨d, by simpa using h1, h2⟩
theorem DVs.append : ∀ {vs ws : List V} {ds es : List PyData}, DVs K H vs ds → DVs K H ws es → DVs K H (vs ++ ws) (ds ++ es)
  | _, _, _, _, .nil, q => q
  | _, _, _, _, .cons h t, q => .cons h (DVs.append t q)
theorem DVs.take : ∀ {vs : List V} {ds : List PyData} (n : Nat), DVs K H vs ds → DVs K H (vs.take n) (ds.take n)
  | _, _, 0, _ => .nil
  | _, _, _ + 1, .nil => .nil
  | _, _, n + 1, .cons h t => .cons h (DVs.take n t)
theorem DVs.drop : ∀ {vs : List V} {ds : List PyData} (n : Nat), DVs K H vs ds → DVs K H (vs.drop n) (ds.drop n)
  | _, _, 0, h => h
  | _, _, _ + 1, .nil => .nil
  | _, _, n + 1, .cons _ t => DVs.drop n t
end
def tyD : PyData → String
  | .none => "NoneType"
  | .bool _ => "bool"
  | .int _ => "int"
  | .str _ => "str"
  | .list _ => "list"
  | .tuple _ => "tuple"
  | .dict _ => "dict"
section
variable {X : Cx}
theorem call_isiD : CallR X (.builtin "isinstance") (fun xs H Q => ∃ x d c b, xs = [x, .ty c] ∧ DV X.K H x d ∧ bsub (tyD d) c = some b ∧ Q (.bl b) H) := by
  intro pins s σ H xs us Q I r h
  obtain ⟨x, d, c, b, rfl, hd, e, q⟩ := h
  obtain ⟨u, v, rfl, ru, rv⟩ := vals2 r
  cases (show v = Value.type c from rv)
  have e' := kit_b (K := X.K) e
  have fin : ∀ tk, EP X pins σ Q (.bool b) { s with toks := tk } := fun tk => ⟨.bl b, H, I.tok _, rfl, q⟩
  cases hd with
  | non => exact isinst_ok I ru .non e' fin
  | bl b => exact isinst_ok I ru (.bl b) e' fin
  | int i => exact isinst_ok I ru (.int i) e' fin
  | str x => exact isinst_ok I ru (.str x) e' fin
  | lst h _ =>
    cases ru
    obtain ⟨its, rv, ⟨o, n, e1, e2, _⟩, _⟩ := I.list h
    exact PySem.W.kia_one PySem.W.kitx_list I.kIn ⟨o, e1, e2⟩ e' (fun z => nomatch z) fin
  | tup h _ =>
    cases ru
    obtain ⟨its, rv, ⟨o, e1, e2, _⟩, _⟩ := I.tuple h
    exact PySem.W.kia_one PySem.W.kitx_tuple I.kIn ⟨o, e1, e2⟩ e' (fun z => nomatch z) fin
  | dct h => exact isinst_ok I ru (.dK h) e' fin
end
section
variable {X : Cx} {K : PySem.W.Frag}
theorem ix_tupK (hK : X.K = K := by rfl) : IxR X (rIxT K) := hK ▸ ix_tup
theorem ix_listK (hK : X.K = K := by rfl) : IxR X (rIxL K) := hK ▸ ix_list
theorem sl_listK (hK : X.K = K := by rfl) : SlR X (rSlL K) := hK ▸ sl_list
end
def Ite (K : PySem.W.Frag) (a : Addr) : It :=
  ⟨fun i H => ∃ xs x, SqL K H a xs ∧ xs[i]? = some x, fun i H x H' => ∃ p v, H p = none ∧ x = .ref p ∧ (∀ xs, SqL K H a xs → xs[i]? = some v) ∧ H' = upd H p (.tup [.int i, v]), fun i H => ∃ xs, SqL K H a xs ∧ xs.length ≤ i⟩
theorem turn_enum {P : Program} {w : World} {K : PySem.W.Frag} {elts : List Expr} {x1} {tpos : Pos} (a e it : Addr) (hne : e ≠ it) : Turn P w K (.Tuple elts x1 tpos) (Ite K a) [e, it] e (fun i h => (∃ old, IsEnum h e it (i : Int) old) ∧ h.IsListIter it a i) where
  mem := by simp
  obj := fun i h ⟨⟨old, st⟩, o', e', c', d'⟩ b hb => by
    rcases List.mem_cons.mp hb with z | z
    · subst z
      exact ⟨_, st, fun v q => by cases q⟩
    · have z : b = it := by simpa using z
      subst z
      exact ⟨o', e', fun v q => by rw [d'] at q; cases q⟩
  keep := fun i h h' ⟨⟨old, st⟩, st'⟩ k => ⟨⟨old, k e (by simp) _ st⟩, st'.at fun o q => k it (by simp) o q⟩
  item := by
    intro X hP hw hK hc i pins s σ H E I hf ⟨⟨old, st⟩, st'⟩ hg
    subst hP hw hK
    obtain ⟨xs, x, hq, hx⟩ := hg
    obtain ⟨its, rv, p, hz⟩ := I.list hq
    obtain ⟨u, hu, ru⟩ := rv.get hx
    obtain ⟨f0, f1, f2, f3, f4, f5⟩ := hf e (by simp)
    obtain ⟨g0, g1, g2, g3, g4, g5⟩ := hf it (by simp)
    refine wpAny_pyNext_enum_item st st' p.isList (x := u) (by simpa using hu) hne fun h1 heo hit1 ht1 hz1 hk1 => ?_
    refine ⟨_, rfl, ?_⟩
    refine wpAny_letOwnedTupleGo_enum heo fun h2 he2 hs2 => ?_
    have nep : ∀ b o, s.heap.get? b = some o → b ≠ s.heap.objs.size := fun b o q => Nat.ne_of_lt (Heap.lt_size q)
    have k2 : ∀ b o, b ≠ e → b ≠ it → s.heap.get? b = some o → h2.get? b = some o := fun b o h1' h2' q => hs2.extBut b o h1' (hk1 b o h1' h2' q)
    have nt : ∀ b o, H b = some o → b ≠ e ∧ b ≠ it := fun b o q => ⟨(fun z => by rw [z, f0] at q; cases q), fun z => by rw [z, g0] at q; cases q⟩
    have hp0 : H s.heap.objs.size = none := I.hok.fresh (Nat.le_refl _)
    have htp : h2.get? s.heap.objs.size = some { cls := .type "tuple", data := .seq #[.int i s.toks, u] } := hs2.extBut _ _ (Nat.ne_of_gt (Heap.lt_size st)) ht1
    have J : Inv X pins σ (upd H s.heap.objs.size (.tup [.int i, x])) { s with heap := h2, toks := s.toks + 1 } := by
      refine I.step (g' := s.gens) (d' := s.drawn) (ch := [e, it]) (fun b hb => ?_) (fun b o _ _ hc' q n => k2 b o (fun z => hc' (by simp [z])) (fun z => hc' (by simp [z])) q) (fun b o _ _ hc' q n => ⟨o.slots, k2 b o (fun z => hc' (by simp [z])) (fun z => hc' (by simp [z])) q⟩)
        (fun b o _ q n => by rw [upd_ne (nep b o q)]; exact n) (fun b o hc' q => ⟨o, k2 b o (fun z => hc' (by simp [z])) (fun z => hc' (by simp [z])) q⟩)
        (fun b ys q => by rw [upd_ne (ne_of_none q hp0)]; exact q) (fun b o y q => by rw [upd_ne (ne_of_none q hp0)]; exact q) (fun b ps q => ⟨#[], by rw [upd_ne (ne_of_none q hp0), q]; simp⟩) (fun m hm => ?_) (fun b o q => ?_) I.bare
      · rcases List.mem_cons.mp hb with z | z
        · subst z; exact ⟨f3, f1, f4, f5⟩
        · have z : b = it := by simpa using z
          subst z; exact ⟨g3, g1, g4, g5⟩
      · obtain ⟨o, es, ep, ho, r⟩ := hm
        exact ⟨o, es, ep, k2 _ o (Ne.symm f1) (Ne.symm g1) ho, r⟩
      · by_cases hb : b = s.heap.objs.size
        · subst hb
          rw [upd_same] at q
          cases q
          exact ⟨by show 2 ≤ sizeLine; decide, [.int i s.toks, u], .cons ⟨_, rfl⟩ (.cons ru .nil), _, htp, rfl, _, rfl⟩
        · rw [upd_ne hb] at q
          refine (I.hok b o q).stay (fun c v hc' z => k2 c v ?_ ?_ z) (fun c z => by rw [upd_ne (ne_of_none z hp0)]; exact z) fun c ys z => by rw [upd_ne (ne_of_none z hp0)]; exact z
          · rcases hc' with z | z
            · rw [z]; exact (nt b o q).1
            · exact (nt c _ z).1
          · rcases hc' with z | z
            · rw [z]; exact (nt b o q).2
            · exact (nt c _ z).2
    refine ⟨.ref s.heap.objs.size, _, J, rfl, ⟨s.heap.objs.size, x, hp0, rfl, (fun ys hy => by rw [I.list_inj hy hq]; exact hx), rfl⟩, ⟨⟨u, ?_⟩, ?_⟩, fun b hb => ?_⟩
    · have z : ((i + 1 : Nat) : Int) = (i : Int) + 1 := by push_cast; rfl
      rw [z]; exact he2
    · exact hit1.extBut hs2.extBut (Ne.symm hne)
    · rcases List.mem_cons.mp hb with z | z
      · subst z
        rw [upd_ne (nep _ _ st)]; exact f0
      · have z : b = it := by simpa using z
        subst z
        obtain ⟨o, q, _⟩ := st'
        rw [upd_ne (nep _ _ q)]; exact g0
  done := by
    intro X hP hw hK hc i pins s σ H E I hf ⟨⟨old, st⟩, st'⟩ hg
    subst hP hw hK
    obtain ⟨xs, hq, hx⟩ := hg
    obtain ⟨its, rv, p, hz⟩ := I.list hq
    obtain ⟨g0, g1, g2, g3, g4, g5⟩ := hf it (by simp)
    have hl := rv.length
    exact wpAny_pyNext_enum_end (I.ok.hd hc) st st' p.isList (by simp; omega) fun h' eb => ⟨rfl, I.turned (t' := s.toks) (fun b o hb e => eb b o hb e) g0 g1 g3 g4 g5⟩
  self := fun _ _ _ _ _ ⟨⟨old, st⟩, _⟩ h => wpAny_pyIter_enum st h
section
variable {X : Cx} {elts : List Expr} {x1 : Nat} {tpos : Pos}
def iEnum (K : PySem.W.Frag) (ta : TA) : TI := fun σ H R => ta σ H fun vs H1 => ∃ a, vs = [.ref a] ∧ (∃ xs, SqL K H1 a xs) ∧ R (Ite K a) H1
theorem pi_enum {a : Expr} {ta : TA} {p pos : Pos} (hg : Gl X "enumerate") (hm : X.mg "enumerate" = none) (ha : PA X [a] ta) (hs : starEach [a] X.env = [(false, eval a X.env)] := by rfl) : PI X (.Tuple elts x1 tpos) (.Call (.Name "enumerate" p) [a] [] pos) (iEnum X.K ta) := by
  intro pins s σ H R I h
  refine Call_ (ld_blt I hg hm boot_enumerate (PyProof.Rows.callWith_type1 (thn (ha pos pins s σ H _ I h) fun us s1 ⟨vs, H1, I1, r1, q1⟩ => ?_) hs rfl))
  obtain ⟨a, e, ⟨xs, hq⟩, q⟩ := q1
  subst e
  obtain ⟨u, rfl, r⟩ := vals1 r1
  cases r
  obtain ⟨its, rv, p, hz⟩ := I1.list hq
  refine call_enumerate_list p.isList fun h' he hi hsz hk => ?_
  have I2 : Inv X pins σ H1 { s1 with heap := h' } := I1.kept (t' := s1.toks) hk
  refine wpAny_pyIter_enum he ⟨s1.heap.objs.size + 1, [s1.heap.objs.size + 1, s1.heap.objs.size], _, _, H1, rfl, I2, turn_enum a _ _ (Nat.succ_ne_self _), ⟨⟨_, he⟩, hi⟩, fun b hb => ?_, q⟩
  rcases List.mem_cons.mp hb with z | z
  · subst z
    exact I1.fpOk (Nat.le_succ _) (I1.hok.fresh (Nat.le_succ _))
  · have z : b = s1.heap.objs.size := by simpa using z
    subst z
    exact I1.fpOk (Nat.le_refl _) (I1.hok.fresh (Nat.le_refl _))
end
theorem for_enum {K : PySem.W.Frag} {a : Addr} {xs : List V} {g : TG} {tb : TS} {D : Ends} {σ : St} {H : Hp} (Pv : Nat → St → Hp → Prop) (h0 : Pv 0 σ H) (hl : ∀ i σ H, i ≤ xs.length → Pv i σ H → SqL K H a xs)
    (hs : ∀ i x σ H p, xs[i]? = some x → Pv i σ H → H p = none → g (.ref p) σ (upd H p (.tup [.int i, x])) fun σ2 H2 => tb { D with nx := Pv (i + 1), ct := Pv (i + 1), bk := D.nx } σ2 H2) (hd : ∀ σ H, Pv xs.length σ H → D.nx σ H) :
    ∃ W : Nat → Nat → St → Hp → Prop, (∃ m, W 0 m σ H) ∧ ∀ i m σ H, W i m σ H →
      ((Ite K a).stop i H ∧ D.nx σ H) ∨ ((Ite K a).go i H ∧ ∃ N : St → Hp → Prop, (∀ σ' H', N σ' H' → ∃ m', m' < m ∧ W (i + 1) m' σ' H') ∧ ∀ x H', (Ite K a).yld i H x H' → g x σ H' fun σ2 H2 => tb { D with nx := N, ct := N, bk := D.nx } σ2 H2) := by
  refine ⟨fun i m σ H => m = xs.length - i ∧ i ≤ xs.length ∧ Pv i σ H, ⟨xs.length, by simp, Nat.zero_le _, h0⟩, ?_⟩
  rintro i m σ H ⟨rfl, hi, p⟩
  have q := hl i σ H hi p
  by_cases hlt : i < xs.length
  · refine .inr ⟨⟨xs, xs[i], q, by simp [hlt]⟩, Pv (i + 1), fun σ' H' p' => ⟨xs.length - (i + 1), by omega, rfl, hlt, p'⟩, fun x H' y => ?_⟩
    obtain ⟨r, v, n, rfl, y, rfl⟩ := y
    exact hs i v σ H r (y xs q) p n
  · have e : i = xs.length := by omega
    subst e
    exact .inl ⟨⟨xs, q, Nat.le_refl _⟩, hd σ H p⟩
def Nx (n : Nat) (Pv : Nat → St → List V → Hp → Prop) (i : Nat) (σ : St) (ys : List V) (H : Hp) : Prop := ∃ m', m' < n - i ∧ (m' = n - (i + 1) ∧ i + 1 ≤ n ∧ Pv (i + 1) σ ys H)
theorem nx {n : Nat} {Pv : Nat → St → List V → Hp → Prop} {i : Nat} {σ : St} {ys : List V} {H : Hp} (hi : i < n) (h : Pv (i + 1) σ ys H) : Nx n Pv i σ ys H := ⟨n - (i + 1), by omega, rfl, hi, h⟩
theorem lt_of_get {α : Type} {xs : List α} {i : Nat} {x : α} (h : xs[i]? = some x) : i < xs.length := (List.getElem?_eq_some_iff.mp h).1
theorem comp_list {K : PySem.W.Frag} {a : Addr} {xs : List V} {g : TG} {tt : TT} {te : TE} {Q : VK} {σ : St} {H : Hp} (Pv : Nat → St → List V → Hp → Prop) (h0 : Pv 0 σ [] H) (hz : ∀ i σ ys H, i ≤ xs.length → Pv i σ ys H → ys.length ≤ sizeLine ∧ SqL K H a xs)
    (hs : ∀ i x σ ys H, xs[i]? = some x → Pv i σ ys H → g x σ H fun σ2 H2 => tt σ2 H2 fun b H3 => if b = true then te σ2 H3 fun y H4 => Nx xs.length Pv i σ2 (ys ++ [y]) H4 else Nx xs.length Pv i σ2 ys H3)
    (hd : ∀ σ ys H p, Pv xs.length σ ys H → H p = none → Q (.ref p) (upd H p (.lst ys))) :
    tCompB g tt te (Itl K a) σ H Q := by
  refine ⟨fun i m σ ys H => m = xs.length - i ∧ i ≤ xs.length ∧ Pv i σ ys H, ⟨xs.length, by simp, Nat.zero_le _, h0⟩, ?_⟩
  rintro i m σ' ys H ⟨rfl, hi, p⟩
  obtain ⟨z, q⟩ := hz i σ' ys H hi p
  refine ⟨z, ?_⟩
  by_cases hlt : i < xs.length
  · refine .inr ⟨⟨xs, xs[i], q, by simp [hlt]⟩, fun x H' y => ?_⟩
    obtain ⟨rfl, y⟩ := y
    exact hs i x σ' ys _ (y xs q) p
  · have e : i = xs.length := by omega
    subst e
    exact .inl ⟨⟨xs, q, Nat.le_refl _⟩, fun r n => hd σ' ys _ r p n⟩
theorem comp_tup {K : PySem.W.Frag} {a : Addr} {xs : List V} {g : TG} {tt : TT} {te : TE} {Q : VK} {σ : St} {H : Hp} (Pv : Nat → St → List V → Hp → Prop) (h0 : Pv 0 σ [] H) (hz : ∀ i σ ys H, i ≤ xs.length → Pv i σ ys H → ys.length ≤ sizeLine ∧ SqT K H a xs)
    (hs : ∀ i x σ ys H, xs[i]? = some x → Pv i σ ys H → g x σ H fun σ2 H2 => tt σ2 H2 fun b H3 => if b = true then te σ2 H3 fun y H4 => Nx xs.length Pv i σ2 (ys ++ [y]) H4 else Nx xs.length Pv i σ2 ys H3)
    (hd : ∀ σ ys H p, Pv xs.length σ ys H → H p = none → Q (.ref p) (upd H p (.lst ys))) :
    tCompB g tt te (Itt K a) σ H Q := by
  refine ⟨fun i m σ ys H => m = xs.length - i ∧ i ≤ xs.length ∧ Pv i σ ys H, ⟨xs.length, by simp, Nat.zero_le _, h0⟩, ?_⟩
  rintro i m σ' ys H ⟨rfl, hi, p⟩
  obtain ⟨z, q⟩ := hz i σ' ys H hi p
  refine ⟨z, ?_⟩
  by_cases hlt : i < xs.length
  · refine .inr ⟨⟨xs, xs[i], q, by simp [hlt]⟩, fun x H' y => ?_⟩
    obtain ⟨rfl, y⟩ := y
    exact hs i x σ' ys _ (y xs q) p
  · have e : i = xs.length := by omega
    subst e
    exact .inl ⟨⟨xs, q, Nat.le_refl _⟩, fun r n => hd σ' ys _ r p n⟩
theorem comp_range {lo : Int} {n : Nat} {g : TG} {tt : TT} {te : TE} {Q : VK} {σ : St} {H : Hp} (Pv : Nat → St → List V → Hp → Prop) (h0 : Pv 0 σ [] H) (hz : ∀ i σ ys H, i ≤ n → Pv i σ ys H → ys.length ≤ sizeLine)
    (hs : ∀ i σ ys H, i < n → Pv i σ ys H → g (.int (lo + i)) σ H fun σ2 H2 => tt σ2 H2 fun b H3 => if b = true then te σ2 H3 fun y H4 => Nx n Pv i σ2 (ys ++ [y]) H4 else Nx n Pv i σ2 ys H3)
    (hd : ∀ σ ys H p, Pv n σ ys H → H p = none → Q (.ref p) (upd H p (.lst ys))) :
    tCompB g tt te (Itr lo n) σ H Q := by
  refine ⟨fun i m σ ys H => m = n - i ∧ i ≤ n ∧ Pv i σ ys H, ⟨n, by simp, Nat.zero_le _, h0⟩, ?_⟩
  rintro i m σ' ys H ⟨rfl, hi, p⟩
  refine ⟨hz i σ' ys H hi p, ?_⟩
  by_cases hlt : i < n
  · refine .inr ⟨hlt, fun x H' y => ?_⟩
    obtain ⟨rfl, rfl⟩ := y
    exact hs i σ' ys _ hlt p
  · have e : i = n := by omega
    subst e
    exact .inl ⟨Nat.le_refl _, fun r n => hd σ' ys _ r p n⟩
theorem comp_list0 {K : PySem.W.Frag} {a : Addr} {xs : List V} {g : TG} {te : TE} {Q : VK} {σ : St} {H : Hp} (Pv : Nat → St → List V → Hp → Prop) (h0 : Pv 0 σ [] H) (hz : ∀ i σ ys H, i ≤ xs.length → Pv i σ ys H → ys.length ≤ sizeLine ∧ SqL K H a xs)
    (hs : ∀ i x σ ys H, xs[i]? = some x → Pv i σ ys H → g x σ H fun σ2 H2 => te σ2 H2 fun y H4 => Nx xs.length Pv i σ2 (ys ++ [y]) H4)
    (hd : ∀ σ ys H p, Pv xs.length σ ys H → H p = none → Q (.ref p) (upd H p (.lst ys))) : tCompB g tYes te (Itl K a) σ H Q :=
  comp_list Pv h0 hz (fun i x σ ys H hx hp => by
    have := hs i x σ ys H hx hp
    simpa only [tYes, if_true] using this) hd
theorem comp_tup0 {K : PySem.W.Frag} {a : Addr} {xs : List V} {g : TG} {te : TE} {Q : VK} {σ : St} {H : Hp} (Pv : Nat → St → List V → Hp → Prop) (h0 : Pv 0 σ [] H) (hz : ∀ i σ ys H, i ≤ xs.length → Pv i σ ys H → ys.length ≤ sizeLine ∧ SqT K H a xs)
    (hs : ∀ i x σ ys H, xs[i]? = some x → Pv i σ ys H → g x σ H fun σ2 H2 => te σ2 H2 fun y H4 => Nx xs.length Pv i σ2 (ys ++ [y]) H4)
    (hd : ∀ σ ys H p, Pv xs.length σ ys H → H p = none → Q (.ref p) (upd H p (.lst ys))) : tCompB g tYes te (Itt K a) σ H Q :=
  comp_tup Pv h0 hz (fun i x σ ys H hx hp => by
    have := hs i x σ ys H hx hp
    simpa only [tYes, if_true] using this) hd
theorem comp_range0 {lo : Int} {n : Nat} {g : TG} {te : TE} {Q : VK} {σ : St} {H : Hp} (Pv : Nat → St → List V → Hp → Prop) (h0 : Pv 0 σ [] H) (hz : ∀ i σ ys H, i ≤ n → Pv i σ ys H → ys.length ≤ sizeLine)
    (hs : ∀ i σ ys H, i < n → Pv i σ ys H → g (.int (lo + i)) σ H fun σ2 H2 => te σ2 H2 fun y H4 => Nx n Pv i σ2 (ys ++ [y]) H4)
    (hd : ∀ σ ys H p, Pv n σ ys H → H p = none → Q (.ref p) (upd H p (.lst ys))) : tCompB g tYes te (Itr lo n) σ H Q :=
  comp_range Pv h0 hz (fun i σ ys H hx hp => by
    have := hs i σ ys H hx hp
    simpa only [tYes, if_true] using this) hd
theorem nocap {caps : List (Option Nat)} {P : Nat → Nat → Prop} (h : caps.all (·.isNone) = true) : ∀ i j, caps[i]? = some (some j) → P i j := fun i j e => by
  have := List.all_eq_true.mp h _ (List.mem_of_getElem? e)
  cases this
end L2
namespace L2
open PySem PySem.Spec PyProof.Rows
theorem RoomB.room {k : Nat} {A : Around} (r : RoomB true k A) : Room k A := ⟨r.hd rfl, r.dp, r.un⟩
structure MC (P : Program) (w : World) (K : PySem.W.Frag) (mg : Str → Option Value) (base : Heap) (k : Nat) (C : Addr) (m : Str) (ps : List Str) (sp : Sp) : Prop where
  ex : ∃ (f : Addr) (fd : FuncData), FnB P w K mg base true k f fd ps sp ∧ Meth K C m f ∧ Binds K fd ps []
  cl : Cls K C
structure MtFn (K : PySem.W.Frag) (C : Addr) (m qual : Str) (st : Stmt) : Prop where
  ex : ∃ (f : Addr) (fd : FuncData), Fun K m qual st f fd ∧ Meth K C m f
  cl : Cls K C
theorem MtFn.mc {P : Program} {w : World} {K : PySem.W.Frag} {mg : Str → Option Value} {base : Heap} {C : Addr} {m qual : Str} {st : Stmt} {N ps : List Str} {k : Nat} {sp : Sp} (T : MtFn K C m qual st) (S : FnScope N ps (defScope st))
    (hb : ∀ (kV doc pm : Value) (an : Option Addr) (cdv ct : Value) (us : List Value), us.length = ps.length → bindArgs (PySem.W.fnOf m qual (defArgs st) (defBody st) (defScope st) .none kV doc pm an cdv ct) ⟨us, []⟩ = pure (ps.zip us))
    (len : ∀ vs H Q E, sp vs H Q E → vs.length = ps.length)
    (hbody : ∀ (f : Addr) (cdv : Value) (A : Around) (outer : List Env) (s : Shared) (H : Hp) (vs : List V) (Q : VK) (E : XK), RoomB true k (A.deeper (envOfC qual (defScope st) s.heap.objs.size f cdv)) → sp vs H Q E →
      ∃ t, PSs (cxB true P w K mg base N qual (defScope st) f cdv A outer s H E).nox (defBody st) t ∧ t { nx := fun _ H' => Q .non H', rt := Q } (start N vs) H) : MC P w K mg base (k + 1) C m ps sp := by
  obtain ⟨f, fd, F, hm⟩ := T.ex
  obtain ⟨oc, od, kV, doc, pm, an, cdv, ct, osl, rfl, l, cd⟩ := id F.ex
  refine ⟨⟨f, _, fnB_of l cd S len fun A outer s H vs Q E hr h => ?_, hm, F.binds hb⟩, T.cl⟩
  obtain ⟨t, h1, h2⟩ := hbody f cdv A outer s H vs Q E hr h
  exact ⟨t, h1.nox, h2⟩
structure MkC (P : Program) (w : World) (K : PySem.W.Frag) (mg : Str → Option Value) (base : Heap) (k : Nat) (x : Str) (C : Addr) (ps : List Str) (sp : Sp) : Prop where
  ex : ∃ (f : Addr) (fd : FuncData), FnB P w K mg base true k f fd ps sp ∧ Mk K C f ∧ Binds K fd ps []
  mg : mg x = some (.ref C)
structure MkFn (K : PySem.W.Frag) (mg : Str → Option Value) (x : Str) (C : Addr) (qual : Str) (st : Stmt) : Prop where
  ex : ∃ (f : Addr) (fd : FuncData), Fun K "__init__" qual st f fd ∧ Mk K C f
  mg : mg x = some (.ref C)
theorem MkFn.mkc {P : Program} {w : World} {K : PySem.W.Frag} {mg : Str → Option Value} {base : Heap} {x : Str} {C : Addr} {qual : Str} {st : Stmt} {N ps : List Str} {k : Nat} {sp : Sp} (T : MkFn K mg x C qual st) (S : FnScope N ps (defScope st))
    (hb : ∀ (kV doc pm : Value) (an : Option Addr) (cdv ct : Value) (us : List Value), us.length = ps.length → bindArgs (PySem.W.fnOf "__init__" qual (defArgs st) (defBody st) (defScope st) .none kV doc pm an cdv ct) ⟨us, []⟩ = pure (ps.zip us))
    (len : ∀ vs H Q E, sp vs H Q E → vs.length = ps.length)
    (hbody : ∀ (f : Addr) (cdv : Value) (A : Around) (outer : List Env) (s : Shared) (H : Hp) (vs : List V) (Q : VK) (E : XK), RoomB true k (A.deeper (envOfC qual (defScope st) s.heap.objs.size f cdv)) → sp vs H Q E →
      ∃ t, PSs (cxB true P w K mg base N qual (defScope st) f cdv A outer s H E).nox (defBody st) t ∧ t { nx := fun _ H' => Q .non H', rt := Q } (start N vs) H) : MkC P w K mg base (k + 1) x C ps sp := by
  obtain ⟨f, fd, F, hm⟩ := T.ex
  obtain ⟨oc, od, kV, doc, pm, an, cdv, ct, osl, rfl, l, cd⟩ := id F.ex
  refine ⟨⟨f, _, fnB_of l cd S len fun A outer s H vs Q E hr h => ?_, hm, F.binds hb⟩, T.mg⟩
  obtain ⟨t, h1, h2⟩ := hbody f cdv A outer s H vs Q E hr h
  exact ⟨t, h1.nox, h2⟩
section
variable {X : Cx} {k : Nat} {C : Addr} {ps : List Str} {sp : Sp} {x m : Str} {p pos apos : Pos} {e o : Expr} {es : List Expr} {ta : TE} {t : TA}
def tMB (P : Program) (w : World) (K : PySem.W.Frag) (mg : Str → Option Value) (base : Heap) (k : Nat) (m : Str) (ta : TE) (t : TA) : TE := fun σ H Q => ta σ H fun x H1 => ∃ a C dx fs ps sp, x = .ref a ∧ H1 a = some (.ins C dx fs) ∧ fs.lookup m = none ∧
  MC P w K mg base k C m ps sp ∧ t σ H1 fun vs H2 => sp (x :: vs) H2 Q E0
theorem pe_mB {pl : Sem Bool} (he : PE X o ta) (hr : RoomB true k X.A) (ha : PA X (e :: es) t)
    (hst : starEach (e :: es) X.env = (false, eval e X.env) :: starEach es X.env := by rfl) (hpl : (backTo pos (starEach es X.env)).any (·.1) = false := by rfl)
    (ht : eval (.Call (.Attribute o m apos) (e :: es) [] pos) X.env = (do
      let ov ← eval o X.env
      standAt apos.atName
      let (f, first) ← holding [ov] (getMethod ov m pl)
      callWith pos f first (backTo pos (starEach (e :: es) X.env)) (backToKw pos (keywordEach [] X.env))) := by rfl) :
    PE X (.Call (.Attribute o m apos) (e :: es) [] pos) (tMB X.prog X.w X.K X.mg X.base k m ta t) := by
  intro pins s σ H Q I h
  refine PySem.W.methodCall_KW (pl := pl) (thn (he pins s σ H _ I h) fun u s1 ⟨x, H1, I1, rx, a, C, dx, fs, ps, sp, ex, ea, l, M, q⟩ => ?_) ht
  subst ex
  obtain rfl : u = Value.ref a := rx
  obtain ⟨f, fd, F, hm, hb⟩ := M.ex
  refine getmeth_ok I1 ea M.cl hm l ?_
  refine PySem.W.callWith_K (first := [.ref a]) (h₀ := X.base) I.ok.mod.kin hm.kp (thn (ha pos pins s1 σ H1 _ I1 q) fun us s2 ⟨vs, H2, I2, r, q2⟩ => ⟨I2.kIn, ?_⟩) hst hpl
  exact run_fn (us := .ref a :: us) (vs := .ref a :: vs) (dvs := []) (ds := []) (E := E0) F.ok hr.room hb .nil pass01 I2 (.cons rfl r) (by rw [List.append_nil]; exact q2)
theorem pe_mkB (M : MkC X.prog X.w X.K X.mg X.base k x C ps sp) (hr : RoomB true (k + 1) X.A) (ha : PA X (e :: es) t) (hg : Gl X x := by rfl) (hdb : (x == ("__debug__" : Str)) = false := by decide)
    (he : starEach (e :: es) X.env = (false, eval e X.env) :: starEach es X.env := by rfl) (hpl : (backTo pos (starEach es X.env)).any (·.1) = false := by rfl) :
    PE X (.Call (.Name x p) (e :: es) [] pos) (tMake C sp [] E0 t) := by
  obtain ⟨f, fd, F, hm, hb⟩ := M.ex
  exact pe_make hm F.ok hr.room hg M.mg hb .nil pass01 ha hdb he hpl
theorem pe_fldB {f : Str} (he : PE X e ta) (hb : attributeBase e f X.env (eval e X.env) = eval e X.env := by rfl) : PE X (.Attribute e f pos) (tFld X.K ta f) := pe_fld he hb
theorem ps_fldB {f : Str} {pos' : Pos} {value : Expr} {tv : TE} (ha : PE X o ta) (hv : PE X value tv) (hs : swapsWith value (some (.Attribute o f pos')) pos.line X.env = pure false := by rfl) : PS X (.Assign [.Attribute o f pos'] value pos) (sFld X.K ta tv f) := ps_fld ha hv hs
end
end L2
namespace L2
open PySem PySem.Spec PyProof.Rows
theorem clos_run (env : Env) : ∀ (l : List (Str × NameKind)) (acc : List (Str × Addr)), (∀ y ∈ l, y.2 = .free → ∃ c, env.cells.lookup y.1 = some c) →
    ∃ cl, (forIn l acc fun (x : Str × NameKind) (cs : List (Str × Addr)) => (if (x.2 == NameKind.free) = true then (cellOf env x.1 >>= fun a => pure (ForInStep.yield ((x.1, a) :: cs))) else pure (ForInStep.yield cs) : Sem (ForInStep (List (Str × Addr))))) = pure cl ∧
      (∀ y c, cl.lookup y = some c → acc.lookup y = some c ∨ env.cells.lookup y = some c) ∧ (∀ y c, acc.lookup y = some c → ∃ c', cl.lookup y = some c') ∧ ∀ y ∈ l, y.2 = .free → ∃ c, cl.lookup y.1 = some c := by
  intro l
  induction l with
  | nil => intro acc _; exact ⟨acc, rfl, fun y c e => .inl e, fun y c e => ⟨c, e⟩, fun _ h => nomatch h⟩
  | cons x r ih =>
    intro acc h
    obtain ⟨n, k⟩ := x
    have hr : ∀ y ∈ r, y.2 = .free → ∃ c, env.cells.lookup y.1 = some c := fun y hy => h y (List.mem_cons_of_mem _ hy)
    rw [List.forIn_cons]
    by_cases hk : k = .free
    · subst hk
      obtain ⟨c, hc⟩ := h (n, .free) List.mem_cons_self rfl
      have ec : cellOf env n = pure c := by unfold cellOf; rw [show env.cells.lookup n = some c from hc]
      rw [if_pos (by rfl), ec, pure_bind, pure_bind]
      obtain ⟨cl, e, h1, h2, h3⟩ := ih ((n, c) :: acc) hr
      refine ⟨cl, e, fun y c' hy => ?_, fun y c' hy => ?_, fun y hy hf => ?_⟩
      · rcases h1 y c' hy with z | z
        · rw [List.lookup_cons] at z
          split at z
          · rename_i ey
            have ey : y = n := by simpa using ey
            subst ey
            cases z
            exact .inr hc
          · exact .inl z
        · exact .inr z
      · by_cases ey : y = n
        · subst ey
          exact h2 y c (by simp)
        · have eb : (y == n) = false := by simpa using ey
          exact h2 y c' (by rw [List.lookup_cons, eb]; exact hy)
      · rcases List.mem_cons.mp hy with z | z
        · subst z
          exact h2 n c (by simp)
        · exact h3 y z hf
    · have hb : ¬ (k == NameKind.free) = true := by simpa using hk
      rw [if_neg hb, pure_bind]
      obtain ⟨cl, e, h1, h2, h3⟩ := ih acc hr
      refine ⟨cl, e, h1, h2, fun y hy hf => ?_⟩
      rcases List.mem_cons.mp hy with z | z
      · subst z; exact absurd hf hk
      · exact h3 y z hf
theorem cap_of {X : Cx} {scope : Scope} (hcell : ∀ y ∈ scope.names, y.2 ≠ .cell) (hf : ∀ y ∈ scope.names, y.2 = .free → ∃ c, X.env.cells.lookup y.1 = some c) : ∃ cl, CapOk X scope cl := by
  obtain ⟨cl, e, h1, h2, h3⟩ := clos_run X.env scope.names [] hf
  refine ⟨cl, ?_, fun y c hy => ?_, fun y hy => ?_⟩
  · unfold closureFor
    rw [show (pure cl : Sem _) = (pure cl >>= fun cs => pure cs) by rw [pure_bind], ← e]
  · rcases h1 y c hy with z | z
    · simp at z
    · exact z
  · have hm : ∃ k, (y, k) ∈ (relabel scope X.env).names ∧ (k = .cell ∨ k = .free) := by
      rcases hy with z | z
      · exact ⟨_, PySem.mem_of_lookup z, .inl rfl⟩
      · exact ⟨_, PySem.mem_of_lookup z, .inr rfl⟩
    obtain ⟨k, hm, hk⟩ := hm
    unfold relabel at hm
    obtain ⟨⟨n, k'⟩, hn, e'⟩ := List.mem_map.mp hm
    have hk' : k' = .free := by
      by_cases z : k' = .free
      · exact z
      · have zb : (k' == NameKind.free) = false := by simpa using z
        simp only [zb, Bool.false_and, Bool.false_eq_true, if_false, Prod.mk.injEq] at e'
        obtain ⟨_, rfl⟩ := e'
        rcases hk with rfl | rfl
        · exact absurd rfl (hcell _ hn)
        · exact absurd rfl z
    subst hk'
    have en : n = y := by
      dsimp only at e'
      split at e'
      · exact (Prod.mk.inj e').1
      · exact (Prod.mk.inj e').1
    subst en
    exact h3 _ hn rfl
theorem cap_def {X : Cx} {scope : Scope} {n : Nat} (hc : X.env.cells = cellsFrom n X.env.scope.names [] := by rfl) (hcell : ∀ y ∈ scope.names, y.2 ≠ .cell) (hf : ∀ y ∈ scope.names, y.2 = .free → X.env.scope.names.lookup y.1 = some .cell) : ∃ cl, CapOk X scope cl :=
  cap_of hcell fun y hy hz => by
    rw [hc]
    exact cell_has (hf y hy hz)
section
variable {X : Cx} {tg elt iter : Expr} {ifs : List Expr} {scope : Scope} {pos spos py : Pos} {wi : TI} {g : TG} {tt : TT} {te : TE}
theorem pe_compX (N' : List Str) (caps : List (Option Nat)) (hc : X.calm = true) (hi : PI X tg iter wi)
    (hg : ∀ cl C fp pins s2 H2, PG (cxC X scope cl N' C fp pins s2 H2) tg g) (ht : ∀ cl C fp pins s2 H2, PIfs (cxC X scope cl N' C fp pins s2 H2) ifs tt) (he : ∀ cl C fp pins s2 H2, PE (cxC X scope cl N' C fp pins s2 H2) elt te)
    (cap : ∃ cl, CapOk X scope cl) (hcell : ∀ y ∈ scope.names, y.2 ≠ .cell) (hkind : scope.kind = .function) (hnames : ∀ y ∈ scope.names, y.2 = .local → scope.names.lookup y.1 = some .local) (hN : caps.length = N'.length)
    (hcap : ∀ (i j : Nat), caps[i]? = some (some j) → ∃ y : Str, N'[i]? = some y ∧ X.N[j]? = some y ∧ (relabel scope X.env).names.lookup y = some .cell ∧ X.env.scope.names.lookup y = some .cell)
    (hs : ∀ x, foldedSetIterable iter X.env x = pure x := by intro _; rfl) :
    PE X (.ListComp elt [⟨tg, iter, ifs, 0⟩] scope pos) (tComp wi g tt te caps) := by
  obtain ⟨cl, cap⟩ := cap
  exact pe_comp N' caps hc hi (hg cl) (ht cl) (he cl) cap hcell hkind hnames hN hcap hs
theorem ps_compX {y : Str} {i : Nat} (hND : X.N.Nodup) (hiy : X.N[i]? = some y) (hy : Loc X.env.scope y) (N' : List Str) (caps : List (Option Nat)) (hc : X.calm = true) (hi : PI X tg iter wi)
    (hg : ∀ cl C fp pins s2 H2, PG (cxC X scope cl N' C fp pins s2 H2) tg g) (ht : ∀ cl C fp pins s2 H2, PIfs (cxC X scope cl N' C fp pins s2 H2) ifs tt) (he : ∀ cl C fp pins s2 H2, PE (cxC X scope cl N' C fp pins s2 H2) elt te)
    (cap : ∃ cl, CapOk X scope cl) (hcell : ∀ y ∈ scope.names, y.2 ≠ .cell) (hkind : scope.kind = .function) (hnames : ∀ y ∈ scope.names, y.2 = .local → scope.names.lookup y.1 = some .local) (hN : caps.length = N'.length)
    (hcap : ∀ (i j : Nat), caps[i]? = some (some j) → ∃ y : Str, N'[i]? = some y ∧ X.N[j]? = some y ∧ (relabel scope X.env).names.lookup y = some .cell ∧ X.env.scope.names.lookup y = some .cell)
    (hs : ∀ x, foldedSetIterable iter X.env x = pure x := by intro _; rfl) (hsw : swapsWith (.ListComp elt [⟨tg, iter, ifs, 0⟩] scope pos) (some (.Name y py)) spos.line X.env = pure true := by rfl)
    (hfn : X.fn y = true ∨ X.env.scope.names.lookup y = some .local := by first | exact .inl rfl | exact .inr rfl | assumption) :
    PS X (.Assign [.Name y py] (.ListComp elt [⟨tg, iter, ifs, 0⟩] scope pos) spos) (tSetC i (tComp wi g tt te caps)) := by
  obtain ⟨cl, cap⟩ := cap
  exact ps_comp hND hiy hy N' caps hc hi (hg cl) (ht cl) (he cl) cap hcell hkind hnames hN hcap hs hsw hfn
end
end L2
namespace Fr
theorem num_den_le {r : Rat} {t b : Int} (h : b ≠ 0) (e : r = Rat.divInt t b) : r.num.natAbs ≤ t.natAbs ∧ r.den ≤ b.natAbs := by
  subst e
  have h1 := lt_abs t b h
  have h2 := lb_abs (t := t) h
  rw [lt_num h] at h1
  rw [lb_den h, Int.natAbs_natCast] at h2
  exact ⟨h1, h2⟩
structure Bd (k : Nat) (q : Rat) : Prop where
  n : q.num.natAbs < 2 ^ k
  d : q.den < 2 ^ k
theorem pow_le {m n : Nat} (h : m ≤ n) : 2 ^ m ≤ 2 ^ n := Nat.pow_le_pow_right (by decide) h
theorem Bd.mono {m n : Nat} {q : Rat} (h : Bd m q) (le : m ≤ n) : Bd n q := ⟨Nat.lt_of_lt_of_le h.n (pow_le le), Nat.lt_of_lt_of_le h.d (pow_le le)⟩
theorem Bd.neg {n : Nat} {q : Rat} (h : Bd n q) : Bd n (-q) := ⟨by rw [Rat.neg_num, Int.natAbs_neg]; exact h.n, by rw [Rat.neg_den]; exact h.d⟩
theorem Bd.of {n : Nat} {t b : Int} (b0 : b ≠ 0) (ht : t.natAbs < 2 ^ n) (hb : b.natAbs < 2 ^ n) : Bd n (Rat.divInt t b) := by
  obtain ⟨h1, h2⟩ := num_den_le b0 (rfl : Rat.divInt t b = Rat.divInt t b)
  exact ⟨by omega, by omega⟩
theorem mul_lt {a b m n : Nat} (ha : a < 2 ^ m) (hb : b < 2 ^ n) : a * b < 2 ^ (m + n) := by
  rw [Nat.pow_add]
  exact Nat.mul_lt_mul'' ha hb
theorem abs_mul {x y : Int} {m n : Nat} (hx : x.natAbs < 2 ^ m) (hy : y.natAbs < 2 ^ n) : (x * y).natAbs < 2 ^ (m + n) := by
  rw [Int.natAbs_mul]; exact mul_lt hx hy
theorem abs_add {x y : Int} {n : Nat} (hx : x.natAbs < 2 ^ n) (hy : y.natAbs < 2 ^ n) : (x + y).natAbs < 2 ^ (n + 1) := by
  have := Int.natAbs_add_le x y
  rw [Nat.pow_succ]
  omega
theorem abs_sub {x y : Int} {n : Nat} (hx : x.natAbs < 2 ^ n) (hy : y.natAbs < 2 ^ n) : (x - y).natAbs < 2 ^ (n + 1) := by
  rw [Nat.pow_succ]
  omega
theorem Bd.dn {n : Nat} {q : Rat} (h : Bd n q) : ((q.den : Int)).natAbs < 2 ^ n := by rw [Int.natAbs_natCast]; exact h.d
theorem dd0 (p q : Rat) : (p.den : Int) * (q.den : Int) ≠ 0 := Int.mul_ne_zero (den_ne p) (den_ne q)
section
variable {m n : Nat} {p q : Rat} (hp : Bd m p) (hq : Bd n q)
include hp hq
theorem Bd.add : Bd (m + n + 1) (p + q) := by
  rw [← sum_rat]
  refine Bd.of (dd0 p q) (abs_add (abs_mul hp.n hq.dn) ?_) (Nat.lt_of_lt_of_le (abs_mul hp.dn hq.dn) (pow_le (by omega)))
  have := abs_mul hq.n hp.dn
  rw [Nat.add_comm m n]; exact this
theorem Bd.sub : Bd (m + n + 1) (p - q) := by
  rw [← less_rat]
  refine Bd.of (dd0 p q) (abs_sub (abs_mul hp.n hq.dn) ?_) (Nat.lt_of_lt_of_le (abs_mul hp.dn hq.dn) (pow_le (by omega)))
  have := abs_mul hq.n hp.dn
  rw [Nat.add_comm m n]; exact this
theorem Bd.mul : Bd (m + n) (p * q) := by
  rw [← prod_rat]
  exact Bd.of (dd0 p q) (abs_mul hp.n hq.n) (abs_mul hp.dn hq.dn)
theorem Bd.div (q0 : q ≠ 0) : Bd (m + n) (p / q) := by
  rw [← quot_rat]
  refine Bd.of (Int.mul_ne_zero (den_ne p) fun e => q0 ((num_zero q).mp e)) (abs_mul hp.n hq.dn) (abs_mul hp.dn hq.n)
end
structure Rb (n : Nat) (y u : Rat) : Prop where
  ex : ∃ (Y U : Int) (N : Nat), N ≠ 0 ∧ N < 2 ^ n ∧ Y.natAbs < 2 ^ n ∧ U.natAbs < 2 ^ n ∧ y = Rat.divInt Y N ∧ u = Rat.divInt U N
theorem Rb.mono {m n : Nat} {y u : Rat} (h : Rb m y u) (le : m ≤ n) : Rb n y u := by
  obtain ⟨Y, U, N, n0, hn, hY, hU, ey, eu⟩ := h.ex
  have := pow_le le
  exact ⟨Y, U, N, n0, by omega, by omega, by omega, ey, eu⟩
theorem Rb.y {n : Nat} {y u : Rat} (h : Rb n y u) : Bd n y := by
  obtain ⟨Y, U, N, n0, hn, hY, hU, ey, eu⟩ := h.ex
  rw [ey]
  exact Bd.of (by omega) hY (by omega)
theorem Rb.u {n : Nat} {y u : Rat} (h : Rb n y u) : Bd n u := by
  obtain ⟨Y, U, N, n0, hn, hY, hU, ey, eu⟩ := h.ex
  rw [eu]
  exact Bd.of (by omega) hU (by omega)
theorem step_rat (Y U dn : Int) (N dd : Int) (n0 : N ≠ 0) (d0 : dd ≠ 0) : Rat.divInt Y N + Rat.divInt dn dd * Rat.divInt U N = Rat.divInt (Y * dd + dn * U) (N * dd) := by
  rw [Rat.divInt_mul_divInt, Rat.divInt_add_divInt _ _ n0 (Int.mul_ne_zero d0 n0)]
  rw [show Y * (dd * N) + dn * U * N = (Y * dd + dn * U) * N by rw [Int.add_mul, Int.mul_assoc Y], show N * (dd * N) = (N * dd) * N by rw [Int.mul_assoc], Rat.divInt_mul_right n0]
theorem step_low (Y dd N : Int) (n0 : N ≠ 0) (d0 : dd ≠ 0) : Rat.divInt Y N = Rat.divInt (Y * dd) (N * dd) := (Rat.divInt_mul_right d0).symm
theorem Rb.gap {n m : Nat} {y u d : Rat} (h : Rb n y u) (hd : Bd m d) : Rb (n + m + 1) (y + d * u) u := by
  obtain ⟨Y, U, N, n0, hn, hY, hU, ey, eu⟩ := h.ex
  have N0 : (N : Int) ≠ 0 := by omega
  refine ⟨Y * (d.den : Int) + d.num * U, U * (d.den : Int), N * d.den, Nat.mul_ne_zero n0 d.den_nz, Nat.lt_of_lt_of_le (mul_lt hn hd.d) (pow_le (by omega)), abs_add (abs_mul hY hd.dn) ?_, Nat.lt_of_lt_of_le (abs_mul hU hd.dn) (pow_le (by omega)), ?_, ?_⟩
  · have := abs_mul hd.n hU
    rw [Nat.add_comm n m]; exact this
  · have := step_rat Y U d.num N (d.den : Int) N0 (den_ne d)
    rw [divInt_rat, ← ey, ← eu] at this
    rw [this]; simp
  · rw [eu, step_low U (d.den : Int) N N0 (den_ne d)]; simp
theorem Rb.swap {n : Nat} {y u : Rat} (h : Rb n y u) : Rb n u y := by
  obtain ⟨Y, U, N, n0, hn, hY, hU, ey, eu⟩ := h.ex
  exact ⟨U, Y, N, n0, hn, hU, hY, eu, ey⟩
theorem Rb.glass {n m : Nat} {y u d : Rat} (h : Rb n y u) (hd : Bd m d) : Rb (n + m + 1) y (u - d * y) := by
  have := (h.swap.gap hd.neg).swap
  rw [show u - d * y = u + -d * y by rw [Rat.neg_mul, Rat.sub_eq_add_neg]]
  exact this
end Fr
namespace Op
open Fr
inductive Pc where
  | gap (d : Rat)
  | glass (p : Rat)
  | stop (lo hi : Rat)
abbrev Ray := Rat × Rat
def Pc.lets : Pc → Ray → Bool
  | .stop lo hi, r => !decide (r.1 < lo) && !decide (hi < r.1)
  | _, _ => true
def Pc.bent : Pc → Ray → Ray
  | .gap d, r => (r.1 + d * r.2, r.2)
  | .glass p, r => (r.1, r.2 - p * r.1)
  | .stop _ _, r => r
def Pc.ok : Pc → Prop
  | .stop lo hi => ¬ hi < lo
  | _ => True
def Pc.bd (m : Nat) : Pc → Prop
  | .gap d => Bd m d
  | .glass p => Bd m p
  | .stop lo hi => Bd m lo ∧ Bd m hi
theorem Pc.bd.mono {m n : Nat} (h : m ≤ n) : ∀ {p : Pc}, p.bd m → p.bd n
  | .gap _, b => Bd.mono b h
  | .glass _, b => Bd.mono b h
  | .stop _ _, b => ⟨Bd.mono b.1 h, Bd.mono b.2 h⟩
abbrev RB (n : Nat) (r : Ray) : Prop := Rb n r.1 r.2
theorem bent_rb {n m : Nat} {r : Ray} : ∀ {p : Pc}, p.bd m → RB n r → RB (n + m + 1) (p.bent r)
  | .gap _, b, h => Rb.gap h b
  | .glass _, b, h => Rb.glass h b
  | .stop _ _, _, h => Rb.mono h (by omega)
def wk : Nat → List Pc → Ray → List Ray × Option Nat
  | _, [], _ => ([], none)
  | i, p :: ps, r => if p.lets r = true then (p.bent r :: (wk (i + 1) ps (p.bent r)).1, (wk (i + 1) ps (p.bent r)).2) else ([], some i)
def walk (ps : List Pc) (r : Ray) : List Ray × Option Nat := (r :: (wk 0 ps r).1, (wk 0 ps r).2)
theorem wk_by {i : Nat} {p : Pc} {ps : List Pc} {r : Ray} (h : p.lets r = true) : wk i (p :: ps) r = (p.bent r :: (wk (i + 1) ps (p.bent r)).1, (wk (i + 1) ps (p.bent r)).2) := by
  rw [wk, if_pos h]
theorem wk_no {i : Nat} {p : Pc} {ps : List Pc} {r : Ray} (h : p.lets r = false) : wk i (p :: ps) r = ([], some i) := by
  rw [wk, if_neg (by rw [h]; exact Bool.false_ne_true)]
structure At (ps : List Pc) (r : Ray) (i : Nat) (tr : List Ray) (cur : Ray) : Prop where
  eq : wk 0 ps r = (tr ++ (wk i (ps.drop i) cur).1, (wk i (ps.drop i) cur).2)
  last : (r :: tr).getLast? = some cur
theorem at_0 (ps : List Pc) (r : Ray) : At ps r 0 [] r := ⟨rfl, rfl⟩
theorem At.step {ps : List Pc} {r cur : Ray} {i : Nat} {tr : List Ray} {p : Pc} (a : At ps r i tr cur) (hp : ps[i]? = some p) (h : p.lets cur = true) : At ps r (i + 1) (tr ++ [p.bent cur]) (p.bent cur) := by
  obtain ⟨hi, e⟩ := List.getElem?_eq_some_iff.mp hp
  have hd : ps.drop i = p :: ps.drop (i + 1) := by rw [← e]; exact List.drop_eq_getElem_cons hi
  refine ⟨?_, ?_⟩
  · rw [a.eq, hd, wk_by h]
    simp
  · rw [← List.cons_append]; exact List.getLast?_concat
theorem At.stop {ps : List Pc} {r cur : Ray} {i : Nat} {tr : List Ray} {p : Pc} (a : At ps r i tr cur) (hp : ps[i]? = some p) (h : p.lets cur = false) : walk ps r = (r :: tr, some i) := by
  obtain ⟨hi, e⟩ := List.getElem?_eq_some_iff.mp hp
  have hd : ps.drop i = p :: ps.drop (i + 1) := by rw [← e]; exact List.drop_eq_getElem_cons hi
  unfold walk
  rw [a.eq, hd, wk_no h]
  simp
theorem At.done {ps : List Pc} {r cur : Ray} {tr : List Ray} (a : At ps r ps.length tr cur) : walk ps r = (r :: tr, none) := by
  unfold walk
  rw [a.eq, List.drop_eq_nil_of_le (Nat.le_refl _)]
  simp [wk]
end Op
namespace Lib
open PySem L2 Fr Op
def frD (q : Rat) : PyData := .tuple [.int q.num, .int (q.den : Int)]
def rayD (r : Ray) : PyData := .tuple [frD r.1, frD r.2]
def pcD : Pc → PyData
  | .gap d => .tuple [.str "gap", frD d]
  | .glass p => .tuple [.str "glass", frD p]
  | .stop lo hi => .tuple [.str "stop", frD lo, frD hi]
def benchD (ps : List Pc) : PyData := .list (ps.map pcD)
def optD : Option Nat → PyData
  | none => .none
  | some i => .int (i : Int)
section
variable {K : PySem.W.Frag} {H : Hp} {v : V}
theorem _root_.L2.DV.fr {q : Rat} (h : DV K H v (frD q)) : ∃ a, v = .ref a ∧ SqT K H a [.int q.num, .int (q.den : Int)] := by
  obtain ⟨a, x, y, rfl, ha, hx, hy⟩ := DV.t2 h
  rw [hx.int_of, hy.int_of] at ha
  exact ⟨a, rfl, ha⟩
theorem dv_fr {q : Rat} {a : Addr} (h : SqT K H a [.int q.num, .int (q.den : Int)]) : DV K H (.ref a) (frD q) := .tup h (.cons (.int _) (.cons (.int _) .nil))
theorem dv_low {t b : Int} {p : Addr} (b0 : b ≠ 0) : DV K (upd H p (.tup [.int (Fr.lt t b), .int (Fr.lb t b)])) (.ref p) (frD (Rat.divInt t b)) := by
  rw [frO_of b0]
  exact dv_fr (SqT.of upd_same)
end
theorem _root_.Fr.Bd.sm {n : Nat} {q : Rat} (h : Bd n q) (hn : n ≤ 4000) : Sm q := ⟨Nat.lt_of_lt_of_le h.n (by unfold lim2; exact pow_le hn), Nat.lt_of_lt_of_le h.d (by unfold lim2; exact pow_le hn)⟩
structure Flat (n : Nat) (d : PyData) : Prop where
  c : d.canLay0 = true
  d : d.depth ≤ n
theorem Flat.sh {n : Nat} {d : PyData} (h : Flat n d) (hn : n ≤ 64) : SeqAt.shaped d = true := by
  unfold SeqAt.shaped
  rw [h.c, Bool.true_and]
  exact decide_eq_true (Nat.le_trans h.d hn)
theorem flat_all {n : Nat} : ∀ {ds : List PyData}, (∀ d ∈ ds, Flat n d) → PyData.canLayAll0 ds = true ∧ PyData.depthAll ds ≤ n
  | [], _ => ⟨rfl, Nat.zero_le _⟩
  | d :: ds, h => by
    obtain ⟨h1, h2⟩ := flat_all (fun x hx => h x (List.mem_cons_of_mem _ hx))
    have h3 := h d List.mem_cons_self
    refine ⟨?_, ?_⟩
    · rw [PyData.canLayAll0, h3.c, h1]; rfl
    · rw [PyData.depthAll]; exact Nat.max_le.mpr ⟨h3.d, h2⟩
theorem flat_tup {n : Nat} {ds : List PyData} (h : ∀ d ∈ ds, Flat n d) : Flat (n + 1) (.tuple ds) := ⟨(flat_all h).1, by rw [PyData.depth]; exact Nat.succ_le_succ (flat_all h).2⟩
theorem flat_lst {n : Nat} {ds : List PyData} (h : ∀ d ∈ ds, Flat n d) : Flat (n + 1) (.list ds) := ⟨(flat_all h).1, by rw [PyData.depth]; exact Nat.succ_le_succ (flat_all h).2⟩
theorem flat_fr (q : Rat) : Flat 1 (frD q) := ⟨rfl, by show 1 ≤ 1; exact Nat.le_refl _⟩
theorem flat_ray (r : Ray) : Flat 2 (rayD r) := flat_tup fun d hd => by
  simp only [List.mem_cons, List.not_mem_nil, or_false] at hd
  rcases hd with rfl | rfl
  · exact flat_fr _
  · exact flat_fr _
section
variable {K : PySem.W.Frag} {H : Hp} {x y : V} {d : PyData} {Q : VK}
theorem ne_same {n : Nat} (hx : DV K H x d) (hy : DV K H y d) (f : Flat n d) (k : Q (.bl false) H) (hn : n ≤ 64 := by decide) : rNeD K x y H Q :=
  ⟨d, d, hx, hy, f.sh hn, f.sh hn, by rw [SeqAt.eqv_refl d f.c]; exact k⟩
theorem ne_frD {p q : Rat} (hx : DV K H x (frD p)) (hy : DV K H y (frD q)) (k : Q (.bl (!decide (p = q))) H) : rNeD K x y H Q :=
  ⟨_, _, hx, hy, (flat_fr p).sh (by decide), (flat_fr q).sh (by decide), by unfold frD; rw [eqv_fr]; exact k⟩
end
mutual
def noL : PyData → Bool
  | .list _ => false
  | .dict _ => false
  | .tuple ds => noLs ds
  | .none => true
  | .bool _ => true
  | .int _ => true
  | .str _ => true
def noLs : List PyData → Bool
  | [] => true
  | d :: ds => noL d && noLs ds
end
def SameT (H H' : Hp) : Prop := ∀ b xs, (H b = some (.tup xs) → H' b = some (.tup xs)) ∧ ∀ o, H b = some (.frz o (.tup xs)) → H' b = some (.frz o (.tup xs))
theorem sameT_upd {H : Hp} {l : Addr} {xs : List V} (h : H l = some (.lst xs)) (o : HO) : SameT H (upd H l o) := fun b ys => ⟨fun e => by rw [upd_ne (fun z => by rw [z, h] at e; cases e)]; exact e, fun o e => by rw [upd_ne (fun z => by rw [z, h] at e; cases e)]; exact e⟩
mutual
theorem dv_keepT {K : PySem.W.Frag} {H H' : Hp} (s : SameT H H') : ∀ {v : V} {d : PyData}, noL d = true → DV K H v d → DV K H' v d
  | _, _, _, .non => .non
  | _, _, _, .bl b => .bl b
  | _, _, _, .int i => .int i
  | _, _, _, .str x => .str x
  | _, _, n, .lst h q => nomatch n
  | _, _, n, .tup h q => .tup (by
      rcases h with (h | ⟨o, h⟩) | h
      · exact .inl (.inl ((s _ _).1 h))
      · exact .inl (.inr ⟨o, (s _ _).2 o h⟩)
      · exact .inr h) (dvs_keepT s n q)
  | _, _, n, .dct h => nomatch n
theorem dvs_keepT {K : PySem.W.Frag} {H H' : Hp} (s : SameT H H') : ∀ {vs : List V} {ds : List PyData}, noLs ds = true → DVs K H vs ds → DVs K H' vs ds
  | _, _, _, .nil => .nil
  | _, _, n, .cons h q => .cons (dv_keepT s (by rw [noLs] at n; exact (Bool.and_eq_true_iff.mp n).1) h) (dvs_keepT s (by rw [noLs] at n; exact (Bool.and_eq_true_iff.mp n).2) q)
end
theorem noLs_map {α : Type} {f : α → PyData} (h : ∀ x, noL (f x) = true) : ∀ l : List α, noLs (l.map f) = true
  | [] => rfl
  | x :: l => by rw [List.map_cons, noLs, h x, noLs_map h l]; rfl
theorem noL_ray (r : Ray) : noL (rayD r) = true := rfl
theorem noL_pc : ∀ p : Pc, noL (pcD p) = true
  | .gap _ => rfl
  | .glass _ => rfl
  | .stop _ _ => rfl
def PR (K : PySem.W.Frag) (R : List PyData → PyData → Prop) : Sp := fun vs H Q _ => ∃ ds d, DVs K H vs ds ∧ R ds d ∧ ∀ v H', Same H H' → DV K H' v d → Q v H'
def RBin (g : Rat → Rat → Rat) : List PyData → PyData → Prop := fun ds d => ∃ p q, ds = [frD p, frD q] ∧ Sm p ∧ Sm q ∧ d = frD (g p q)
def RLess : List PyData → PyData → Prop := fun ds d => ∃ p q, ds = [frD p, frD q] ∧ Sm p ∧ Sm q ∧ d = .bool (decide (p < q))
theorem DV.upd2 {K : PySem.W.Frag} {H : Hp} {r : Addr} {x y : V} {d1 d2 : PyData} (hr : H r = none) (hx : DV K H x d1) (hy : DV K H y d2) : DV K (upd H r (.tup [x, y])) (.ref r) (.tuple [d1, d2]) :=
  .tup (SqT.of upd_same) (.cons (hx.keep (same_new hr _)) (.cons (hy.keep (same_new hr _)) .nil))
theorem DV.upd3 {K : PySem.W.Frag} {H : Hp} {r : Addr} {x y z : V} {d1 d2 d3 : PyData} (hr : H r = none) (hx : DV K H x d1) (hy : DV K H y d2) (hz : DV K H z d3) : DV K (upd H r (.tup [x, y, z])) (.ref r) (.tuple [d1, d2, d3]) :=
  .tup (SqT.of upd_same) (.cons (hx.keep (same_new hr _)) (.cons (hy.keep (same_new hr _)) (.cons (hz.keep (same_new hr _)) .nil)))
theorem DV.upd4 {K : PySem.W.Frag} {H : Hp} {r : Addr} {x y z u : V} {d1 d2 d3 d4 : PyData} (hr : H r = none) (hx : DV K H x d1) (hy : DV K H y d2) (hz : DV K H z d3) (hu : DV K H u d4) : DV K (upd H r (.tup [x, y, z, u])) (.ref r) (.tuple [d1, d2, d3, d4]) :=
  .tup (SqT.of upd_same) (.cons (hx.keep (same_new hr _)) (.cons (hy.keep (same_new hr _)) (.cons (hz.keep (same_new hr _)) (.cons (hu.keep (same_new hr _)) .nil))))
def ratD : PyData → Bool
  | .tuple [.int t, .int b] => decide (1 ≤ b) && decide (Fr.gcd t b = 1)
  | _ => false
def isIntD : PyData → Bool
  | .int _ => true
  | _ => false
def isTupD : PyData → Bool
  | .tuple _ => true
  | _ => false
theorem isInt_b (d : PyData) : ∃ b c, bsub (tyD d) "int" = some b ∧ bsub (tyD d) "bool" = some c ∧ (b && !c) = isIntD d := by
  cases d with
  | none => exact ⟨false, false, by show bsub "NoneType" "int" = _; decide +kernel, by show bsub "NoneType" "bool" = _; decide +kernel, rfl⟩
  | bool b => exact ⟨true, true, by show bsub "bool" "int" = _; decide +kernel, by show bsub "bool" "bool" = _; decide +kernel, rfl⟩
  | int i => exact ⟨true, false, by show bsub "int" "int" = _; decide +kernel, by show bsub "int" "bool" = _; decide +kernel, rfl⟩
  | str x => exact ⟨false, false, by show bsub "str" "int" = _; decide +kernel, by show bsub "str" "bool" = _; decide +kernel, rfl⟩
  | list xs => exact ⟨false, false, by show bsub "list" "int" = _; decide +kernel, by show bsub "list" "bool" = _; decide +kernel, rfl⟩
  | tuple xs => exact ⟨false, false, by show bsub "tuple" "int" = _; decide +kernel, by show bsub "tuple" "bool" = _; decide +kernel, rfl⟩
  | dict xs => exact ⟨false, false, by show bsub "dict" "int" = _; decide +kernel, by show bsub "dict" "bool" = _; decide +kernel, rfl⟩
theorem isTup_b (d : PyData) : bsub (tyD d) "tuple" = some (isTupD d) := by
  cases d with
  | none => show bsub "NoneType" "tuple" = some false; decide +kernel
  | bool b => show bsub "bool" "tuple" = some false; decide +kernel
  | int i => show bsub "int" "tuple" = some false; decide +kernel
  | str x => show bsub "str" "tuple" = some false; decide +kernel
  | list xs => show bsub "list" "tuple" = some false; decide +kernel
  | tuple xs => show bsub "tuple" "tuple" = some true; decide +kernel
  | dict xs => show bsub "dict" "tuple" = some false; decide +kernel
def isLstD : PyData → Bool
  | .list _ => true
  | _ => false
theorem isLst_b (d : PyData) : bsub (tyD d) "list" = some (isLstD d) := by
  cases d with
  | none => show bsub "NoneType" "list" = some false; decide +kernel
  | bool b => show bsub "bool" "list" = some false; decide +kernel
  | int i => show bsub "int" "list" = some false; decide +kernel
  | str x => show bsub "str" "list" = some false; decide +kernel
  | list xs => show bsub "list" "list" = some true; decide +kernel
  | tuple xs => show bsub "tuple" "list" = some false; decide +kernel
  | dict xs => show bsub "dict" "list" = some false; decide +kernel
def isStrD : PyData → Bool
  | .str _ => true
  | _ => false
theorem isStr_b (d : PyData) : bsub (tyD d) "str" = some (isStrD d) := by
  cases d with
  | none => show bsub "NoneType" "str" = some false; decide +kernel
  | bool b => show bsub "bool" "str" = some false; decide +kernel
  | int i => show bsub "int" "str" = some false; decide +kernel
  | str x => show bsub "str" "str" = some true; decide +kernel
  | list xs => show bsub "list" "str" = some false; decide +kernel
  | tuple xs => show bsub "tuple" "str" = some false; decide +kernel
  | dict xs => show bsub "dict" "str" = some false; decide +kernel
def spW (K : PySem.W.Frag) : Sp := fun vs H Q _ => ∃ v d, vs = [v] ∧ DV K H v d ∧ Q (.bl (isIntD d)) H
def RQuo : List PyData → PyData → Prop := fun ds d => ∃ p q, ds = [frD p, frD q] ∧ Sm p ∧ Sm q ∧ q ≠ 0 ∧ d = frD (p / q)
end Lib
namespace Lib
open PySem L2 Fr Op
theorem iteT' {b : Bool} {A B : Prop} (hb : b = true) (h : A) : if b = true then A else B := by rw [if_pos hb]; exact h
theorem iteF' {b : Bool} {A B : Prop} (hb : b = false) (h : B) : if b = true then A else B := by rw [if_neg (by rw [hb]; exact Bool.false_ne_true)]; exact h
theorem sIx1 (n d : Nat) : HT.sIx n d (some 1) = min 1 n := HT.sIx_nat n d 1
theorem cut1 (xs : List V) : cutV xs (some 1) none = xs.drop 1 := by
  unfold cutV
  rw [sIx1, HT.sIx_none]
  cases xs with
  | nil => rfl
  | cons x r =>
    rw [show min 1 (x :: r).length = 1 by simp only [List.length_cons]; omega]
    exact List.take_of_length_le (by simp)
theorem decS (x y : Str) : decide (V.str x = V.str y) = decide (x = y) := by
  by_cases h : x = y
  · subst h; simp
  · have : ¬ V.str x = V.str y := fun z => h (V.str.inj z)
    rw [decide_eq_false h, decide_eq_false this]
inductive ObAt (K : PySem.W.Frag) (CG CL CS : Addr) (H : Hp) : V → Pc → Prop
  | gap {a dx : Addr} {x : V} {d : Rat} : H a = some (.ins CG dx [("length", x)]) → DV K H x (frD d) → ObAt K CG CL CS H (.ref a) (.gap d)
  | glass {a dx : Addr} {x : V} {d : Rat} : H a = some (.ins CL dx [("strength", x)]) → DV K H x (frD d) → ObAt K CG CL CS H (.ref a) (.glass d)
  | stop {a dx : Addr} {x y : V} {lo hi : Rat} : H a = some (.ins CS dx [("low", x), ("high", y)]) → DV K H x (frD lo) → DV K H y (frD hi) → ObAt K CG CL CS H (.ref a) (.stop lo hi)
theorem ObAt.keep {K : PySem.W.Frag} {CG CL CS : Addr} {H H' : Hp} (s : Same H H') : ∀ {v : V} {p : Pc}, ObAt K CG CL CS H v p → ObAt K CG CL CS H' v p
  | _, _, .gap h x => .gap (s _ _ h) (x.keep s)
  | _, _, .glass h x => .glass (s _ _ h) (x.keep s)
  | _, _, .stop h x y => .stop (s _ _ h) (x.keep s) (y.keep s)
def spInit1 (C : Addr) (f : Str) : Sp := fun vs H Q _ => ∃ a dx x, vs = [.ref a, x] ∧ H a = some (.ins C dx []) ∧ Q .non (upd H a (.ins C dx [(f, x)]))
def spInit2 (C : Addr) (f g : Str) : Sp := fun vs H Q _ => ∃ a dx x y, vs = [.ref a, x, y] ∧ H a = some (.ins C dx []) ∧ Q .non (upd H a (.ins C dx [(f, x), (g, y)]))
def spYes : Sp := fun vs H Q _ => ∃ x y, vs = [x, y] ∧ Q (.bl true) H
def spId : Sp := fun vs H Q _ => ∃ x y, vs = [x, y] ∧ Q y H
def spOb (K : PySem.W.Frag) (CG CL CS : Addr) (R : Pc → Ray → PyData) (C : Pc → Prop) : Sp := fun vs H Q _ => ∃ (o y : V) (p : Pc) (r : Ray) (n m : Nat), vs = [o, y] ∧ C p ∧ ObAt K CG CL CS H o p ∧ DV K H y (rayD r) ∧ RB n r ∧ p.bd m ∧ n + m ≤ 3900 ∧ ∀ v H', Same H H' → DV K H' v (R p r) → Q v H'
def isGap : Pc → Prop
  | .gap _ => True
  | _ => False
def isGlass : Pc → Prop
  | .glass _ => True
  | _ => False
def isStop : Pc → Prop
  | .stop _ _ => True
  | _ => False
def spPc (K : PySem.W.Frag) (CG CL CS : Addr) : Sp := fun vs H Q _ => ∃ v p, vs = [v] ∧ DV K H v (pcD p) ∧ ∀ a H', Same H H' → ObAt K CG CL CS H' (.ref a) p → Q (.ref a) H'
structure Good (m : Nat) (ps : List Pc) : Prop where
  len : ps.length ≤ 60
  ok : ∀ p ∈ ps, p.ok
  bd : ∀ p ∈ ps, p.bd m
def spLook (K : PySem.W.Frag) : Sp := fun vs H Q _ => ∃ v ps m, vs = [v] ∧ DV K H v (benchD ps) ∧ Good m ps ∧ m ≤ 4000 ∧ ∀ H', Same H H' → Q .non H'
def spWalk (K : PySem.W.Frag) : Sp := fun vs H Q _ => ∃ (b y : V) (ps : List Pc) (r : Ray) (n m : Nat), vs = [b, y] ∧ DV K H b (benchD ps) ∧ Good m ps ∧ DV K H y (rayD r) ∧ RB n r ∧ n + ps.length * (m + 1) + m ≤ 3900 ∧
  ∀ t l rs at_ H', Same H H' → H l = none → H' l = some (.lst rs) → H' t = some (.tup [.ref l, at_]) → DVs K H' rs ((walk ps r).1.map rayD) → DV K H' at_ (optD (walk ps r).2) → Q (.ref t) H'
theorem get_map_pc {ps : List Pc} {i : Nat} {d : PyData} (h : (ps.map pcD)[i]? = some d) : ∃ p, ps[i]? = some p ∧ d = pcD p := by
  rw [List.getElem?_map] at h
  cases e : ps[i]? with
  | none => rw [e] at h; cases h
  | some p => rw [e] at h; exact ⟨p, rfl, (Option.some.inj h).symm⟩
end Lib
namespace Lib
open PySem L2 Fr Op
theorem cutV_le (xs : List V) (lo hi : Nat) : (cutV xs (some (lo : Int)) (some (hi : Int))).length ≤ hi - lo := by
  unfold cutV
  rw [HT.sIx_nat, HT.sIx_nat, List.length_take]
  omega
theorem cut_map (ns : List Int) (lo hi : Option Int) : ∃ ms : List Int, cutV (ns.map V.int) lo hi = ms.map V.int := by
  unfold cutV
  rw [← List.map_drop, ← List.map_take]
  exact ⟨_, rfl⟩
theorem last_get {vs : List V} {v : V} (h : vs.getLast? = some v) : atI vs (-1) = some v := by
  obtain ⟨ys, rfl⟩ := List.getLast?_eq_some_iff.mp h
  exact atI_last ys v
end Lib
namespace Lib
open PySem L2 Fr Op
theorem in_words (z : Str) : (if false = true then !inV (.str z) [.str "gap", .str "glass"] else inV (.str z) [.str "gap", .str "glass"]) = (decide (z = "gap") || decide (z = "glass")) := by
  rw [if_neg Bool.false_ne_true]
  unfold inV
  simp only [List.any_cons, List.any_nil, Bool.or_false]
  have h : ∀ w : Str, eqV (.str w) (.str z) = decide (z = w) := fun w => by
    show decide (w = z) = decide (z = w)
    exact decide_eq_decide.mpr ⟨Eq.symm, Eq.symm⟩
  rw [h, h]
end Lib
namespace Lib
open PySem L2 Fr Op
theorem atI0 {x : V} {xs : List V} : atI (x :: xs) 0 = some x := atI_nat (j := 0) rfl
end Lib
namespace Op
open Fr
end Op
namespace Lib
open PySem L2 Fr Op
def RGoes : List PyData → PyData → Prop := fun ds d => ∃ ps r n m, ds = [benchD ps, rayD r] ∧ Good m ps ∧ RB n r ∧ n + ps.length * (m + 1) + m ≤ 3900 ∧ d = .bool (walk ps r).2.isNone
theorem cut_take (xs : List V) (k : Nat) : cutV xs none (some (k : Int)) = xs.take k := by
  unfold cutV
  rw [HT.sIx_nat, HT.sIx_none, List.drop_zero, Nat.sub_zero, ← List.take_take]
  rw [List.take_length]
theorem cut_drop (xs : List V) (k : Nat) : cutV xs (some (k : Int)) none = xs.drop k := by
  unfold cutV
  rw [HT.sIx_nat, HT.sIx_none]
  by_cases h : k ≤ xs.length
  · rw [Nat.min_eq_left h]
    exact List.take_of_length_le (by rw [List.length_drop]; exact Nat.le_refl _)
  · rw [Nat.min_eq_right (by omega), List.drop_eq_nil_of_le (Nat.le_refl _), List.drop_eq_nil_of_le (by omega), List.take_nil]
theorem opt_isN {K : PySem.W.Frag} {H : Hp} {v : V} : ∀ {o : Option Nat}, DV K H v (optD o) → decide (v = .non) = o.isNone
  | none, h => by obtain rfl := h.non_of; rfl
  | some i, h => by obtain rfl := h.int_of; rfl
end Lib
namespace Op
open Fr
def bend (ps : List Pc) (r : Ray) : Ray := ps.foldl (fun r p => p.bent r) r
def both (r s : Ray) : Ray := (r.1 + s.1, r.2 + s.2)
def times (k : Rat) (r : Ray) : Ray := (k * r.1, k * r.2)
theorem bent_both (p : Pc) (r s : Ray) : p.bent (both r s) = both (p.bent r) (p.bent s) := by
  cases p with
  | gap d => simp only [Pc.bent, both]; refine Prod.ext ?_ rfl; show r.1 + s.1 + d * (r.2 + s.2) = r.1 + d * r.2 + (s.1 + d * s.2); grind
  | glass d => simp only [Pc.bent, both]; refine Prod.ext rfl ?_; show r.2 + s.2 - d * (r.1 + s.1) = r.2 - d * r.1 + (s.2 - d * s.1); grind
  | stop _ _ => rfl
theorem bent_times (p : Pc) (k : Rat) (r : Ray) : p.bent (times k r) = times k (p.bent r) := by
  cases p with
  | gap d => simp only [Pc.bent, times]; refine Prod.ext ?_ rfl; show k * r.1 + d * (k * r.2) = k * (r.1 + d * r.2); grind
  | glass d => simp only [Pc.bent, times]; refine Prod.ext rfl ?_; show k * r.2 - d * (k * r.1) = k * (r.2 - d * r.1); grind
  | stop _ _ => rfl
theorem bend_both (ps : List Pc) : ∀ r s : Ray, bend ps (both r s) = both (bend ps r) (bend ps s) := by
  induction ps with
  | nil => intro r s; rfl
  | cons p ps ih => intro r s; show bend ps (p.bent (both r s)) = _; rw [bent_both, ih]; rfl
theorem bend_times (ps : List Pc) : ∀ (k : Rat) (r : Ray), bend ps (times k r) = times k (bend ps r) := by
  induction ps with
  | nil => intro k r; rfl
  | cons p ps ih => intro k r; show bend ps (p.bent (times k r)) = _; rw [bent_times, ih]; rfl
theorem bend_rb {n m : Nat} (ps : List Pc) : ∀ (n : Nat) (r : Ray), (∀ p ∈ ps, p.bd m) → RB n r → RB (n + ps.length * (m + 1)) (bend ps r) := by
  induction ps with
  | nil => intro n r _ h; simpa [bend] using h
  | cons p ps ih =>
    intro n r hb h
    have h1 := bent_rb (hb p List.mem_cons_self) h
    have := ih _ _ (fun q hq => hb q (List.mem_cons_of_mem _ hq)) h1
    refine Rb.mono this ?_
    rw [List.length_cons, Nat.add_mul, Nat.one_mul]
    omega
end Op
namespace Lib
open PySem L2 Fr Op
end Lib
namespace Lib
open PySem L2 Fr Op
theorem flat_nil : Flat 1 (.list []) := flat_lst fun _ h => nomatch h
end Lib
namespace Op
open Fr
structure Tab where
  a : Rat
  b : Rat
  c : Rat
  d : Rat
def Tab.det (t : Tab) : Rat := t.a * t.d - t.b * t.c
def Tab.by (t : Tab) (r : Ray) : Ray := (t.a * r.1 + t.b * r.2, t.c * r.1 + t.d * r.2)
def e1 : Ray := (1, 0)
def e2 : Ray := (0, 1)
def tabOf (ps : List Pc) : Tab := ⟨(bend ps e1).1, (bend ps e2).1, (bend ps e1).2, (bend ps e2).2⟩
theorem ray_split (r : Ray) : r = both (times r.1 e1) (times r.2 e2) := by
  unfold both times e1 e2
  refine Prod.ext ?_ ?_
  · show r.1 = r.1 * 1 + r.2 * 0; grind
  · show r.2 = r.1 * 0 + r.2 * 1; grind
theorem bend_tab (ps : List Pc) (r : Ray) : bend ps r = (tabOf ps).by r := by
  have e : bend ps r = both (times r.1 (bend ps e1)) (times r.2 (bend ps e2)) := by
    rw [← bend_times, ← bend_times, ← bend_both, ← ray_split]
  rw [e]
  unfold both times Tab.by tabOf
  refine Prod.ext ?_ ?_
  · show r.1 * (bend ps e1).1 + r.2 * (bend ps e2).1 = (bend ps e1).1 * r.1 + (bend ps e2).1 * r.2; grind
  · show r.1 * (bend ps e1).2 + r.2 * (bend ps e2).2 = (bend ps e1).2 * r.1 + (bend ps e2).2 * r.2; grind
theorem det_bent (p : Pc) (r s : Ray) : (p.bent r).1 * (p.bent s).2 - (p.bent s).1 * (p.bent r).2 = r.1 * s.2 - s.1 * r.2 := by
  cases p with
  | gap d => show (r.1 + d * r.2) * s.2 - (s.1 + d * s.2) * r.2 = _; grind
  | glass d => show r.1 * (s.2 - d * s.1) - s.1 * (r.2 - d * r.1) = _; grind
  | stop _ _ => rfl
theorem det_bend (ps : List Pc) : ∀ r s : Ray, (bend ps r).1 * (bend ps s).2 - (bend ps s).1 * (bend ps r).2 = r.1 * s.2 - s.1 * r.2 := by
  induction ps with
  | nil => intro r s; rfl
  | cons p ps ih => intro r s; show (bend ps (p.bent r)).1 * (bend ps (p.bent s)).2 - (bend ps (p.bent s)).1 * (bend ps (p.bent r)).2 = _; rw [ih, det_bent]
theorem det_tab (ps : List Pc) : (tabOf ps).det = 1 := by
  have := det_bend ps e1 e2
  unfold Tab.det tabOf
  show (bend ps e1).1 * (bend ps e2).2 - (bend ps e2).1 * (bend ps e1).2 = 1
  rw [this]
  unfold e1 e2
  grind
theorem bend_append (ps qs : List Pc) (r : Ray) : bend (ps ++ qs) r = bend qs (bend ps r) := List.foldl_append ..
def Tab.then (t u : Tab) : Tab := ⟨u.a * t.a + u.b * t.c, u.a * t.b + u.b * t.d, u.c * t.a + u.d * t.c, u.c * t.b + u.d * t.d⟩
theorem tab_append (ps qs : List Pc) : tabOf (ps ++ qs) = (tabOf ps).then (tabOf qs) := by
  unfold Tab.then
  have h1 : bend (ps ++ qs) e1 = (tabOf qs).by (bend ps e1) := by rw [bend_append, bend_tab qs]
  have h2 : bend (ps ++ qs) e2 = (tabOf qs).by (bend ps e2) := by rw [bend_append, bend_tab qs]
  show Tab.mk _ _ _ _ = _
  rw [h1, h2]
  rfl
structure Tb (n : Nat) (t : Tab) : Prop where
  a : Bd n t.a
  b : Bd n t.b
  c : Bd n t.c
  d : Bd n t.d
theorem tab_bd {m : Nat} {ps : List Pc} (hb : ∀ p ∈ ps, p.bd m) : Tb (2 + ps.length * (m + 1)) (tabOf ps) := by
  have r1 : RB 2 e1 := ⟨1, 0, 1, by decide, by decide, by decide, by decide, by decide +kernel, by decide +kernel⟩
  have r2 : RB 2 e2 := ⟨0, 1, 1, by decide, by decide, by decide, by decide, by decide +kernel, by decide +kernel⟩
  have h1 := bend_rb (n := 0) ps 2 e1 hb r1
  have h2 := bend_rb (n := 0) ps 2 e2 hb r2
  exact ⟨h1.y, h2.y, h1.u, h2.u⟩
end Op
namespace Lib
open PySem L2 Fr Op
end Lib
namespace Lib
open PySem L2 Fr Op
def SD (d : Addr) (H H' : Hp) : Prop := ∀ b o, b ≠ d → H b = some o → H' b = some o
theorem SD.refl (d : Addr) (H : Hp) : SD d H H := fun _ _ _ h => h
theorem SD.trans {d : Addr} {H H1 H2 : Hp} (a : SD d H H1) (b : SD d H1 H2) : SD d H H2 := fun c o n h => b c o n (a c o n h)
theorem _root_.L2.Same.sd {H H' : Hp} (s : Same H H') (d : Addr) : SD d H H' := fun b o _ h => s b o h
theorem sd_upd {H : Hp} {d : Addr} {o : HO} : SD d H (upd H d o) := fun b u n h => by rw [upd_ne n]; exact h
def spCell (K : PySem.W.Frag) : Sp := fun vs H Q _ => ∃ (a : Addr) (ns : List Int) (k : Int), vs = [.ref a, .int k] ∧ SqL K H a (ns.map V.int) ∧ 0 ≤ k ∧ ∀ z : Int, Q (.int z) H
theorem noL_fr (q : Rat) : noL (frD q) = true := rfl
end Lib
namespace Lib
open PySem L2 Fr Op
end Lib
namespace Lib
open PySem L2 Fr Op
def spRatG (K : PySem.W.Frag) : Sp := fun vs H Q _ => ∃ v q, vs = [v] ∧ DV K H v (frD q) ∧ Q (.bl true) H
def spPieceG (K : PySem.W.Frag) : Sp := fun vs H Q _ => ∃ (v : V) (p : Pc) (m : Nat), vs = [v] ∧ DV K H v (pcD p) ∧ p.ok ∧ p.bd m ∧ m ≤ 4000 ∧ ∀ H', Same H H' → Q (.bl true) H'
inductive PSh (m : Nat) : Str → List Rat → Prop where
  | stop {lo hi : Rat} : ¬ hi < lo → Bd m lo → Bd m hi → PSh m "stop" [lo, hi]
  | one {w : Str} {d : Rat} : decide (w = "stop") = false → (decide (w = "gap") || decide (w = "glass")) = true → PSh m w [d]
theorem pc_shape {m : Nat} : ∀ {p : Pc}, p.ok → p.bd m → ∃ w es, pcD p = .tuple (.str w :: es.map frD) ∧ PSh m w es
  | .gap d, _, _ => ⟨"gap", [d], rfl, .one (by decide) (by decide)⟩
  | .glass d, _, _ => ⟨"glass", [d], rfl, .one (by decide) (by decide)⟩
  | .stop lo hi, h, b => ⟨"stop", [lo, hi], rfl, .stop h b.1 b.2⟩
theorem PSh.len {m : Nat} {w : Str} {es : List Rat} : PSh m w es → 0 < es.length ∧ es.length ≤ 2
  | .stop .. => ⟨by simp, by simp⟩
  | .one .. => ⟨by simp, by simp⟩
theorem all_rep (n : Nat) : (List.replicate n true).all id = true := by simp
theorem rep_map (n : Nat) : (List.replicate n true).map V.bl = List.replicate n (V.bl true) := by simp
theorem get_fr {es : List Rat} {i : Nat} {d : PyData} (h : (es.map frD)[i]? = some d) : ∃ q, d = frD q := by
  rw [List.getElem?_map] at h
  cases e : es[i]? with
  | none => rw [e] at h; cases h
  | some q => rw [e] at h; cases h; exact ⟨q, rfl⟩
end Lib
namespace Lib
open PySem L2 Fr Op
def spMixG : Sp := fun vs H Q _ => ∃ c b m : Int, vs = [.int c, .int b, .int m] ∧ 0 ≤ b ∧ b < 2 ^ 32 ∧ 0 < m ∧ ∀ x : Int, 0 ≤ x → x < m → Q (.int x) H
def spRatC (K : PySem.W.Frag) : Sp := fun vs H Q _ => ∃ c b : Int, vs = [.int c, .int b] ∧ 0 ≤ b ∧ b < 2 ^ 32 ∧ ∀ v H' q, Same H H' → DV K H' v (frD q) → Bd 7 q → Q v H'
theorem tab_ext {t u : Tab} (a : t.a = u.a) (b : t.b = u.b) (c : t.c = u.c) (d : t.d = u.d) : t = u := by
  cases t; cases u; cases a; cases b; cases c; cases d; rfl
end Lib
namespace Lib
open PySem L2 Fr Op
theorem step_le (n i m : Nat) : n + i * (m + 1) + m + 1 ≤ n + (i + 1) * (m + 1) := by rw [Nat.add_mul]; omega
theorem len_step {α : Type} {tr : List α} {i : Nat} {x : α} (h : tr.length ≤ i) : (tr ++ [x]).length ≤ i + 1 := by rw [List.length_append]; exact Nat.succ_le_succ h
theorem bi_le {n i m k : Nat} (h : n + k * (m + 1) + m ≤ 3900) (hi : i < k) : n + i * (m + 1) + m ≤ 3900 := by
  have : i * (m + 1) ≤ k * (m + 1) := Nat.mul_le_mul_right _ (Nat.le_of_lt hi)
  omega
theorem le_a {n m : Nat} (h : n + m ≤ 3900) : n ≤ 4000 := by omega
theorem le_b {n m : Nat} (h : n + m ≤ 3900) : m ≤ 4000 := by omega
theorem le_ba {n m : Nat} (h : n + m ≤ 3900) : m + n ≤ 4000 := by omega
theorem vs_len {K : PySem.W.Frag} {H : Hp} {vs : List V} {r : Ray} {tr : List Ray} (h : DVs K H vs ((r :: tr).map rayD)) (ht : tr.length ≤ 60) : vs.length < sizeLine := by
  have := h.len
  rw [List.length_map, List.length_cons] at this
  exact small1000 (by omega)
theorem by1 {α : Type} {p : List α → Prop} (h : ∀ a, p [a]) : ∀ us : List α, us.length = 1 → p us
  | [_], _ => h _
theorem by2 {α : Type} {p : List α → Prop} (h : ∀ a b, p [a, b]) : ∀ us : List α, us.length = 2 → p us
  | [_, _], _ => h _ _
theorem by3 {α : Type} {p : List α → Prop} (h : ∀ a b c, p [a, b, c]) : ∀ us : List α, us.length = 3 → p us
  | [_, _, _], _ => h _ _ _
theorem by4 {α : Type} {p : List α → Prop} (h : ∀ a b c d, p [a, b, c, d]) : ∀ us : List α, us.length = 4 → p us
  | [_, _, _, _], _ => h _ _ _ _
end Lib
namespace Lib
open PySem L2 Fr Op
theorem div_nn {t b : Int} (ht : 0 ≤ t) (hb : 0 ≤ b) : 0 ≤ Rat.divInt t b := Rat.divInt_nonneg ht hb
theorem bend_take {ps : List Pc} {i : Nat} {pc : Pc} (h : ps[i]? = some pc) (r : Ray) : bend (ps.take (i + 1)) r = pc.bent (bend (ps.take i) r) := by
  rw [List.take_add_one, h, bend_append]
  rfl
end Lib
namespace Lib
open PySem L2 Fr Op
theorem fr01 {K : PySem.W.Frag} {H : Hp} {p : Addr} : DV K (upd H p (.tup [.int 0, .int 1])) (.ref p) (frD 0) := .tup (SqT.of upd_same) (.cons (.int 0) (.cons (.int 1) .nil))
end Lib
namespace Lib
open PySem L2 Fr Op
end Lib
namespace Lib
open PySem L2 Fr Op
end Lib
namespace Lib
open PySem L2 Fr Op
end Lib
namespace Lib
open PySem L2 Fr Op
end Lib
namespace Lib
open PySem L2 Fr Op
theorem tab_gap (e : Rat) : tabOf [.gap e] = ⟨1, e, 0, 1⟩ := by
  refine tab_ext ?_ ?_ rfl rfl
  · show 1 + e * 0 = (1 : Rat); grind
  · show 0 + e * 1 = e; grind
theorem tab_glass (e : Rat) : tabOf [.glass e] = ⟨1, 0, -e, 1⟩ := by
  refine tab_ext rfl rfl ?_ ?_
  · show 0 - e * 1 = -e; grind
  · show 1 - e * 0 = (1 : Rat); grind
theorem Tb.mono {n m : Nat} {t : Tab} (h : Tb n t) (le : n ≤ m) : Tb m t := ⟨h.a.mono le, h.b.mono le, h.c.mono le, h.d.mono le⟩
theorem bd_neg {n : Nat} {q : Rat} (h : Bd n q) : Bd n (-q) := ⟨by rw [Rat.neg_num, Int.natAbs_neg]; exact h.n, by rw [Rat.neg_den]; exact h.d⟩
end Lib
namespace Lib
open PySem L2 Fr Op
end Lib
namespace Lib
open PySem L2 Fr Op
structure Lim where
  k : Nat
  a : Rat
  b : Rat
  lo : Rat
  hi : Rat
def limD (l : Lim) : PyData := .tuple [.int (l.k : Int), frD l.a, frD l.b, frD l.lo, frD l.hi]
def lim1 (i : Nat) (p : Pc) (h s : Ray) : List Lim := match p with
  | .stop lo hi => [⟨i, h.1, s.1, lo, hi⟩]
  | _ => []
def limsF : Nat → List Pc → Ray → Ray → List Lim
  | _, [], _, _ => []
  | i, p :: ps, h, s => lim1 i p h s ++ limsF (i + 1) ps (p.bent h) (p.bent s)
def lims (ps : List Pc) : List Lim := limsF 0 ps e1 e2
theorem limsF_snoc (p : Pc) : ∀ (ps : List Pc) (i : Nat) (h s : Ray), limsF i (ps ++ [p]) h s = limsF i ps h s ++ lim1 (i + ps.length) p (bend ps h) (bend ps s)
  | [], i, h, s => by show lim1 i p h s ++ [] = [] ++ lim1 (i + 0) p h s; rw [List.append_nil]; rfl
  | q :: ps, i, h, s => by
    show lim1 i q h s ++ limsF (i + 1) (ps ++ [p]) (q.bent h) (q.bent s) = lim1 i q h s ++ limsF (i + 1) ps (q.bent h) (q.bent s) ++ _
    rw [limsF_snoc p ps, List.append_assoc, List.length_cons, show i + 1 + ps.length = i + (ps.length + 1) by omega]
    rfl
theorem lims_take {ps : List Pc} {i : Nat} {p : Pc} (h : ps[i]? = some p) : lims (ps.take (i + 1)) = lims (ps.take i) ++ lim1 i p (bend (ps.take i) e1) (bend (ps.take i) e2) := by
  have hi := (List.getElem?_eq_some_iff.mp h).1
  unfold lims
  rw [List.take_add_one, h]
  show limsF 0 (ps.take i ++ [p]) e1 e2 = _
  rw [limsF_snoc, List.length_take, Nat.min_eq_left (Nat.le_of_lt hi), Nat.zero_add]
theorem lims_len (ps : List Pc) : ∀ (i : Nat) (h s : Ray), (limsF i ps h s).length ≤ ps.length := by
  induction ps with
  | nil => intro i h s; exact Nat.le_refl _
  | cons p ps ih =>
    intro i h s
    show (lim1 i p h s ++ limsF (i + 1) ps _ _).length ≤ ps.length + 1
    rw [List.length_append]
    have := ih (i + 1) (p.bent h) (p.bent s)
    cases p with
    | gap d => show 0 + _ ≤ _; omega
    | glass d => show 0 + _ ≤ _; omega
    | stop lo hi => show 1 + _ ≤ _; omega
theorem noL_lim (l : Lim) : noL (limD l) = true := rfl
def Lim.bad (l : Lim) (r : Ray) : Bool := decide (l.a * r.1 + l.b * r.2 < l.lo) || decide (l.hi < l.a * r.1 + l.b * r.2)
def firstL : List Lim → Ray → Option Nat
  | [], _ => none
  | l :: ls, r => if l.bad r = true then some l.k else firstL ls r
def comb (h s r : Ray) : Ray := both (times r.1 h) (times r.2 s)
theorem bent_comb (p : Pc) (h s r : Ray) : p.bent (comb h s r) = comb (p.bent h) (p.bent s) r := by
  unfold comb
  rw [bent_both, bent_times, bent_times]
theorem comb_1 (h s r : Ray) : (comb h s r).1 = h.1 * r.1 + s.1 * r.2 := by
  show r.1 * h.1 + r.2 * s.1 = _
  grind
theorem first_wk : ∀ (ps : List Pc) (i : Nat) (h s r : Ray), firstL (limsF i ps h s) r = (wk i ps (comb h s r)).2
  | [], i, h, s, r => rfl
  | p :: ps, i, h, s, r => by
    have ih := first_wk ps (i + 1) (p.bent h) (p.bent s) r
    rw [← bent_comb] at ih
    cases p with
    | gap d => rw [wk_by (by rfl)]; exact ih
    | glass d => rw [wk_by (by rfl)]; exact ih
    | stop lo hi =>
      show (if (Lim.mk i h.1 s.1 lo hi).bad r = true then some i else firstL (limsF (i + 1) ps _ _) r) = _
      have e : (Lim.mk i h.1 s.1 lo hi).bad r = !(Pc.stop lo hi).lets (comb h s r) := by
        show (decide (h.1 * r.1 + s.1 * r.2 < lo) || decide (hi < h.1 * r.1 + s.1 * r.2)) = !(!decide ((comb h s r).1 < lo) && !decide (hi < (comb h s r).1))
        rw [comb_1]
        cases decide (h.1 * r.1 + s.1 * r.2 < lo) <;> cases decide (hi < h.1 * r.1 + s.1 * r.2) <;> rfl
      rw [e]
      cases hl : (Pc.stop lo hi).lets (comb h s r) with
      | true => rw [if_neg (by decide), wk_by hl]; exact ih
      | false => rw [if_pos (by decide), wk_no hl]
theorem first_walk (ps : List Pc) (r : Ray) : firstL (lims ps) r = (walk ps r).2 := by
  unfold lims walk
  rw [first_wk]
  have : comb e1 e2 r = r := (ray_split r).symm
  rw [this]
theorem rb_e1 : RB 2 e1 := ⟨1, 0, 1, by decide, by decide, by decide, by decide, by decide +kernel, by decide +kernel⟩
theorem rb_e2 : RB 2 e2 := ⟨0, 1, 1, by decide, by decide, by decide, by decide, by decide +kernel, by decide +kernel⟩
def spLims (K : PySem.W.Frag) : Sp := fun vs H Q _ => ∃ (v : V) (ps : List Pc) (m : Nat), vs = [v] ∧ DV K H v (benchD ps) ∧ Good m ps ∧ 2 + ps.length * (m + 1) + m ≤ 3900 ∧ ∀ l rs H', Same H H' → H l = none → H' l = some (.lst rs) → DVs K H' rs ((lims ps).map limD) → Q (.ref l) H'
theorem DV.upd5 {K : PySem.W.Frag} {H : Hp} {r : Addr} {x y z u t : V} {d1 d2 d3 d4 d5 : PyData} (hr : H r = none) (hx : DV K H x d1) (hy : DV K H y d2) (hz : DV K H z d3) (hu : DV K H u d4) (ht : DV K H t d5) : DV K (upd H r (.tup [x, y, z, u, t])) (.ref r) (.tuple [d1, d2, d3, d4, d5]) :=
  .tup (SqT.of upd_same) (.cons (hx.keep (same_new hr _)) (.cons (hy.keep (same_new hr _)) (.cons (hz.keep (same_new hr _)) (.cons (hu.keep (same_new hr _)) (.cons (ht.keep (same_new hr _)) .nil)))))
theorem DV.t5 {K : PySem.W.Frag} {H : Hp} {v : V} {l : Lim} (h : DV K H v (limD l)) : ∃ a x y z u, v = .ref a ∧ SqT K H a [.int (l.k : Int), x, y, z, u] ∧ DV K H x (frD l.a) ∧ DV K H y (frD l.b) ∧ DV K H z (frD l.lo) ∧ DV K H u (frD l.hi) := by
  obtain ⟨a, xs, rfl, ha, hxs⟩ := DV.tup_of h
  obtain ⟨x0, r0, rfl, h0, hr⟩ := hxs.cons_of
  obtain ⟨x1, x2, x3, x4, rfl, h1, h2, h3, h4⟩ := hr.four
  obtain rfl := h0.int_of
  exact ⟨a, x1, x2, x3, x4, rfl, ha, h1, h2, h3, h4⟩
theorem get_map_lim {ls : List Lim} {i : Nat} {d : PyData} (h : (ls.map limD)[i]? = some d) : ∃ l, ls[i]? = some l ∧ d = limD l := by
  rw [List.getElem?_map] at h
  cases e : ls[i]? with
  | none => rw [e] at h; cases h
  | some p => rw [e] at h; exact ⟨p, rfl, (Option.some.inj h).symm⟩
end Lib
namespace Lib
open PySem L2 Fr Op
end Lib
namespace Lib
open PySem L2 Fr Op
end Lib
namespace Lib
open PySem L2 Fr Op
end Lib
namespace Op
open Fr
def Tab.id : Tab := ⟨1, 0, 0, 1⟩
theorem mul_den (x : Rat) : x * ((x.den : Int) : Rat) = (x.num : Rat) := by
  have h0 : ((x.den : Int) : Rat) ≠ 0 := fun h => by
    have : ((x.den : Int) : Rat) = ((0 : Int) : Rat) := h
    have := Rat.intCast_inj.mp this
    have := x.den_nz
    omega
  have h1 : x = (x.num : Rat) / ((x.den : Int) : Rat) := by
    rw [← Rat.divInt_eq_div]
    exact (Rat.num_divInt_den x).symm
  have h2 : (x.num : Rat) / ((x.den : Int) : Rat) * ((x.den : Int) : Rat) = (x.num : Rat) := Rat.div_mul_cancel h0
  rw [← h1] at h2
  exact h2
end Op
namespace Lib
open PySem L2 Fr Op
structure Tq (n : Nat) (t : Tab) : Prop where
  ex : ∃ (N A B C D : Int), N ≠ 0 ∧ N.natAbs < 2 ^ n ∧ A.natAbs < 2 ^ n ∧ B.natAbs < 2 ^ n ∧ C.natAbs < 2 ^ n ∧ D.natAbs < 2 ^ n ∧ t.a * (N : Rat) = (A : Rat) ∧ t.b * (N : Rat) = (B : Rat) ∧ t.c * (N : Rat) = (C : Rat) ∧ t.d * (N : Rat) = (D : Rat)
theorem Tq.mono {n m : Nat} {t : Tab} (h : Tq n t) (le : n ≤ m) : Tq m t := by
  obtain ⟨N, A, B, C, D, h0, h1, h2, h3, h4, h5, e⟩ := h.ex
  have p : 2 ^ n ≤ 2 ^ m := pow_le le
  exact ⟨N, A, B, C, D, h0, by omega, by omega, by omega, by omega, by omega, e⟩
theorem nat_mul {x y n m : Nat} (hx : x < 2 ^ n) (hy : y < 2 ^ m) : x * y < 2 ^ (n + m) := by
  rw [Nat.pow_add]
  exact Nat.mul_lt_mul_of_lt_of_lt hx hy
theorem abs_two {a b c d : Int} {n m : Nat} (ha : a.natAbs < 2 ^ n) (hb : b.natAbs < 2 ^ m) (hc : c.natAbs < 2 ^ n) (hd : d.natAbs < 2 ^ m) : (a * b + c * d).natAbs < 2 ^ (n + m + 1) := by
  have h1 : (a * b).natAbs < 2 ^ (n + m) := by rw [Int.natAbs_mul]; exact nat_mul ha hb
  have h2 : (c * d).natAbs < 2 ^ (n + m) := by rw [Int.natAbs_mul]; exact nat_mul hc hd
  have h3 := Int.natAbs_add_le (a * b) (c * d)
  have h4 : 2 ^ (n + m + 1) = 2 ^ (n + m) * 2 := by rw [Nat.pow_succ]
  omega
theorem Tq.then {n m : Nat} {t u : Tab} (h : Tq n t) (k : Tq m u) : Tq (m + n + 1) (t.then u) := by
  obtain ⟨N, A, B, C, D, h0, h1, h2, h3, h4, h5, e1, e2, e3, e4⟩ := h.ex
  obtain ⟨N', A', B', C', D', k0, k1, k2, k3, k4, k5, f1, f2, f3, f4⟩ := k.ex
  refine ⟨N' * N, A' * A + B' * C, A' * B + B' * D, C' * A + D' * C, C' * B + D' * D, Int.mul_ne_zero k0 h0, ?_, abs_two k2 h2 k3 h4, abs_two k2 h3 k3 h5, abs_two k4 h2 k5 h4, abs_two k4 h3 k5 h5, ?_, ?_, ?_, ?_⟩
  · rw [Int.natAbs_mul]
    exact Nat.lt_of_lt_of_le (nat_mul k1 h1) (pow_le (by omega))
  · show (u.a * t.a + u.b * t.c) * ((N' * N : Int) : Rat) = ((A' * A + B' * C : Int) : Rat)
    rw [Rat.intCast_add, Rat.intCast_mul, Rat.intCast_mul, Rat.intCast_mul, ← e1, ← e3, ← f1, ← f2]; grind
  · show (u.a * t.b + u.b * t.d) * ((N' * N : Int) : Rat) = ((A' * B + B' * D : Int) : Rat)
    rw [Rat.intCast_add, Rat.intCast_mul, Rat.intCast_mul, Rat.intCast_mul, ← e2, ← e4, ← f1, ← f2]; grind
  · show (u.c * t.a + u.d * t.c) * ((N' * N : Int) : Rat) = ((C' * A + D' * C : Int) : Rat)
    rw [Rat.intCast_add, Rat.intCast_mul, Rat.intCast_mul, Rat.intCast_mul, ← e1, ← e3, ← f3, ← f4]; grind
  · show (u.c * t.b + u.d * t.d) * ((N' * N : Int) : Rat) = ((C' * B + D' * D : Int) : Rat)
    rw [Rat.intCast_add, Rat.intCast_mul, Rat.intCast_mul, Rat.intCast_mul, ← e2, ← e4, ← f3, ← f4]; grind
theorem tq_id : Tq 1 Tab.id := ⟨1, 1, 0, 0, 1, by decide, by decide, by decide, by decide, by decide, by decide, Rat.one_mul _, Rat.zero_mul _, Rat.zero_mul _, Rat.one_mul _⟩
theorem tq_piece {m : Nat} : ∀ {p : Pc}, p.bd m → Tq (m + 1) (tabOf [p])
  | .gap e, (b : Bd m e) => by
    rw [tab_gap]
    have hn : e.num.natAbs < 2 ^ (m + 1) := Nat.lt_of_lt_of_le b.n (pow_le (by omega))
    have hd : (e.den : Int).natAbs < 2 ^ (m + 1) := by rw [Int.natAbs_natCast]; exact Nat.lt_of_lt_of_le b.d (pow_le (by omega))
    refine ⟨e.den, e.den, e.num, 0, e.den, by have := e.den_nz; omega, hd, hd, hn, Nat.pow_pos (by decide), hd, Rat.one_mul _, mul_den e, Rat.zero_mul _, Rat.one_mul _⟩
  | .glass e, (b : Bd m e) => by
    rw [tab_glass]
    have hn : (-e.num).natAbs < 2 ^ (m + 1) := by rw [Int.natAbs_neg]; exact Nat.lt_of_lt_of_le b.n (pow_le (by omega))
    have hd : (e.den : Int).natAbs < 2 ^ (m + 1) := by rw [Int.natAbs_natCast]; exact Nat.lt_of_lt_of_le b.d (pow_le (by omega))
    refine ⟨e.den, e.den, 0, -e.num, e.den, by have := e.den_nz; omega, hd, hd, Nat.pow_pos (by decide), hn, hd, Rat.one_mul _, Rat.zero_mul _, ?_, Rat.one_mul _⟩
    show -e * ((e.den : Int) : Rat) = ((-e.num : Int) : Rat)
    rw [Rat.intCast_neg, ← mul_den e]; grind
  | .stop lo hi, _ => by
    have e : tabOf [.stop lo hi] = Tab.id := rfl
    rw [e]
    exact tq_id.mono (by omega)
theorem tq_tab {m : Nat} : ∀ {ps : List Pc}, (∀ p ∈ ps, p.bd m) → Tq (1 + ps.length * (m + 2)) (tabOf ps)
  | [], _ => by
    have e : tabOf [] = Tab.id := rfl
    rw [e]
    exact tq_id.mono (by simp)
  | p :: ps, h => by
    have e : tabOf (p :: ps) = (tabOf [p]).then (tabOf ps) := tab_append [p] ps
    rw [e]
    exact (Tq.then (tq_piece (h p List.mem_cons_self)) (tq_tab fun q hq => h q (List.mem_cons_of_mem _ hq))).mono (by rw [List.length_cons, Nat.add_mul]; omega)
instance : DecidableEq Tab := fun t u => decidable_of_iff (t.a = u.a ∧ t.b = u.b ∧ t.c = u.c ∧ t.d = u.d) ⟨fun ⟨a, b, c, d⟩ => by (cases t; cases u; cases a; cases b; cases c; cases d; rfl), fun h => by rw [h]; exact ⟨rfl, rfl, rfl, rfl⟩⟩
end Lib
namespace Lib
open PySem L2 Fr Op
end Lib
namespace L2
open PySem PySem.Spec PyProof.Rows
end L2
namespace L2
open PySem PySem.Spec PyProof.Rows
end L2
namespace Lib
open PySem L2 Fr Op
end Lib
namespace Lib
open PySem L2 Fr Op
end Lib
namespace Lib
open PySem L2 Fr Op
end Lib
namespace Lib
open PySem L2 Fr Op
end Lib
namespace Lib
open PySem L2 Fr Op
theorem eq_nil {K : PySem.W.Frag} {H : Hp} {x y : V} {n : Nat} {ds : List PyData} {Q : VK} (hx : DV K H x (.list ds)) (hy : DV K H y (.list [])) (f : Flat n (.list ds)) (k : Q (.bl ds.isEmpty) H) (hn : n ≤ 64 := by decide) : rEqD K x y H Q := by
  refine ⟨_, _, hx, hy, f.sh hn, flat_nil.sh (by decide), ?_⟩
  have e : PyData.eqv (.list ds) (.list []) = ds.isEmpty := by
    cases ds with
    | nil => rfl
    | cons d ds => simp [PyData.eqv, PyData.eqvAll]
  rw [e]
  exact k
end Lib
namespace Lib
open PySem L2 Fr Op
end Lib
namespace L2
open PySem PySem.Spec PyProof.Rows PySem.Builtin
end L2
namespace Lib
open PySem L2 Fr Op
end Lib
namespace Lib
open PySem L2 Fr Op
end Lib
namespace Lib
open PySem L2 Fr Op
end Lib
namespace Lib
open PySem L2 Fr Op
end Lib
namespace Lib
open PySem L2 Fr Op
end Lib
namespace L2
open PySem PySem.Spec PyProof.Rows PySem.Builtin
end L2
namespace L2
open PySem PySem.Spec PyProof.Rows PySem.Builtin
end L2
namespace L2
open PySem PySem.Spec PyProof.Rows PySem.Builtin
end L2
namespace L2
open PySem PySem.Spec PyProof.Rows PySem.Builtin
end L2
namespace L2
open PySem PySem.Spec PyProof.Rows PySem.Builtin
end L2
namespace L2
open PySem PySem.Spec PyProof.Rows
end L2
namespace Lib
open PySem L2 Fr Op
end Lib
namespace Op
open Fr
end Op
namespace Lib
open PySem L2 Fr Op
end Lib
namespace Op
open Fr
end Op
namespace Lib
open PySem L2 Fr Op
end Lib
namespace Lib
open PySem L2 Fr Op
theorem eqv_ray (r s : Ray) : PyData.eqv (rayD r) (rayD s) = decide (r = s) := by
  have e : PyData.eqv (rayD r) (rayD s) = (decide (r.1 = s.1) && decide (r.2 = s.2)) := by
    rw [← eqv_fr, ← eqv_fr]
    simp [rayD, frD, PyData.eqv, PyData.eqvAll]
  rw [e]
  by_cases h : r = s
  · subst h; simp
  · rw [decide_eq_false h]
    by_cases a : r.1 = s.1
    · by_cases b : r.2 = s.2
      · exact absurd (Prod.ext a b) h
      · simp [b]
    · simp [a]
end Lib
namespace L2
open PySem PySem.Spec PyProof.Rows PySem.Builtin
end L2
namespace Op
open Fr
end Op
namespace Lib
open PySem L2 Fr Op
theorem get_map_ray {ws : List Ray} {i : Nat} {d : PyData} (h : (ws.map rayD)[i]? = some d) : ∃ r, ws[i]? = some r ∧ d = rayD r := by
  rw [List.getElem?_map] at h
  cases e : ws[i]? with
  | none => rw [e] at h; cases h
  | some r => rw [e] at h; exact ⟨r, rfl, (Option.some.inj h).symm⟩
end Lib
namespace Op
open Fr Lib
end Op
namespace Lib
open PySem L2 Fr Op
end Lib
namespace Lib
open PySem L2 Fr Op
end Lib
namespace L2
open PySem PySem.Spec PyProof.Rows PySem.Builtin
end L2
namespace Lib
open PySem L2 Fr Op
end Lib
namespace L2
open PySem PySem.Spec PyProof.Rows
end L2
namespace Lib
open PySem L2 Fr Op
end Lib
namespace L2
open PySem PySem.Spec PyProof.Rows
end L2
namespace Lib
open PySem L2 Fr Op
end Lib
namespace L2
open PySem PySem.Spec PyProof.Rows
end L2
namespace L2
open PySem PySem.Spec PyProof.Rows PySem.Builtin
open PySem.AutoSeq1 (wpAny_loadPart')
end L2
namespace L2
open PySem PySem.Spec PySem.Calls PyProof.Rows PySem.W Builtin Builtin.ObjectAttr
end L2
namespace L2
open PySem PySem.Spec PySem.Calls PyProof.Rows PySem.W Builtin Builtin.ObjectAttr
end L2
namespace L2
open PySem PySem.Spec PySem.Calls PyProof.Rows PySem.W Builtin Builtin.ObjectAttr
end L2
namespace L2
open PySem PySem.Spec PySem.Calls PyProof.Rows PySem.W
end L2
namespace Lib
open PySem L2 Fr Op
end Lib
namespace Lib
open PySem L2 Fr Op
end Lib
namespace L2
open PySem PySem.Spec PyProof.Rows
end L2
namespace L2
open PySem PySem.Spec PyProof.Rows PySem.Builtin PySem.Builtin.Str
end L2
namespace Lib
open PySem L2 Fr Op
end Lib
namespace L2
open PySem PySem.Spec PyProof.Rows PySem.Builtin PySem.SeqAt
def rInD (K : PySem.W.Frag) (neg : Bool) : R2 := fun x y H Q => ∃ p xs dx ds, y = .ref p ∧ SqL K H p xs ∧ DV K H x dx ∧ DVs K H xs ds ∧ dx.canLay0 = true ∧ dx.depth ≤ 60 ∧ PyData.canLayAll0 ds = true ∧ Q (.bl (if neg then !ds.any (fun d => PyData.eqv d dx) else ds.any (fun d => PyData.eqv d dx))) H
theorem readsAll_get {h : Heap} : ∀ {us : List Value} {ds : List PyData} {as : List Addr}, ReadsAll h us ds as → ∀ u ∈ us, ∃ d as, d ∈ ds ∧ Reads h u d as
  | _, _, _, .nil, u, hu => nomatch hu
  | _, _, _, .cons r rs, u, hu => by
    rcases List.mem_cons.mp hu with rfl | hu
    · exact ⟨_, _, List.mem_cons_self, r⟩
    · obtain ⟨d, as, hd, hr⟩ := readsAll_get rs u hu
      exact ⟨d, as, List.mem_cons_of_mem _ hd, hr⟩
theorem canLay_mem : ∀ {ds : List PyData}, PyData.canLayAll0 ds = true → ∀ d ∈ ds, d.canLay0 = true
  | [], _, d, h => nomatch h
  | e :: ds, c, d, h => by
    rw [PyData.canLayAll0] at c
    rcases List.mem_cons.mp h with rfl | h
    · exact (Bool.and_eq_true_iff.mp c).1
    · exact canLay_mem (Bool.and_eq_true_iff.mp c).2 d h
noncomputable def eqAs (h : Heap) (dx : PyData) (u : Value) : Bool := @dite Bool (∃ d as, Reads h u d as ∧ d.canLay0 = true) (Classical.propDecidable _) (fun c => PyData.eqv (Classical.choose c) dx) (fun _ => false)
theorem eqAs_of {h : Heap} {dx d : PyData} {u : Value} {as : List Addr} (r : Reads h u d as) (c : d.canLay0 = true) : eqAs h dx u = PyData.eqv d dx := by
  unfold eqAs
  have e : ∃ d as, Reads h u d as ∧ d.canLay0 = true := ⟨d, as, r, c⟩
  rw [dif_pos e]
  obtain ⟨as', r', _⟩ := Classical.choose_spec e
  rw [← PySem.SeqAt.Reads.unique d _ u as as' c r r']
theorem any_eqAs {h : Heap} {dx : PyData} : ∀ {us : List Value} {ds : List PyData} {as : List Addr}, ReadsAll h us ds as → PyData.canLayAll0 ds = true → us.any (eqAs h dx) = ds.any (fun d => PyData.eqv d dx)
  | _, _, _, .nil, _ => rfl
  | _, _, _, .cons r rs, c => by
    rw [PyData.canLayAll0] at c
    rw [List.any_cons, List.any_cons, any_eqAs rs (Bool.and_eq_true_iff.mp c).2, eqAs_of r (Bool.and_eq_true_iff.mp c).1]
section
variable {X : Cx}
theorem op_inD (hu : X.A.units + 64 < cLine) : OpR X (compareOp .In) (rInD X.K false) := by
  intro pins s σ H x y v u Q I rx ry h
  obtain ⟨p, xs, dx, ds, rfl, hq, hx, hd, cx, dp, cs, q⟩ := h
  cases ry
  obtain ⟨its, r, pl, hz⟩ := I.list hq
  obtain ⟨a1, r1⟩ := hx.reads I cx rx
  obtain ⟨a2, r2⟩ := DVs.reads I hd cs r
  refine SeqAt.in_listAt (eqAs s.heap dx) pl.isList (fun w hw => ?_) ⟨.bl _, H, I, rfl, ?_⟩
  · obtain ⟨d, as, hd', hr⟩ := readsAll_get r2 w (by simpa using hw)
    rw [eqAs_of hr (canLay_mem cs d hd')]
    refine eqAt_reads d dx X.A.in1 s w v as a1 hr r1 (canLay_mem cs d hd') cx ?_
    have : X.A.in1.units = X.A.units + 1 := rfl
    have := Nat.min_le_right d.depth dx.depth
    omega
  · rw [show its.toArray.any (eqAs s.heap dx) = its.any (eqAs s.heap dx) by simp, any_eqAs r2 cs]
    exact q
theorem op_notInD (hu : X.A.units + 64 < cLine) : OpR X (compareOp .NotIn) (rInD X.K true) := by
  intro pins s σ H x y v u Q I rx ry h
  obtain ⟨p, xs, dx, ds, rfl, hq, hx, hd, cx, dp, cs, q⟩ := h
  cases ry
  obtain ⟨its, r, pl, hz⟩ := I.list hq
  obtain ⟨a1, r1⟩ := hx.reads I cx rx
  obtain ⟨a2, r2⟩ := DVs.reads I hd cs r
  refine SeqAt.notIn_listAt (eqAs s.heap dx) pl.isList (fun w hw => ?_) ⟨.bl _, H, I, rfl, ?_⟩
  · obtain ⟨d, as, hd', hr⟩ := readsAll_get r2 w (by simpa using hw)
    rw [eqAs_of hr (canLay_mem cs d hd')]
    refine eqAt_reads d dx X.A.in1 s w v as a1 hr r1 (canLay_mem cs d hd') cx ?_
    have : X.A.in1.units = X.A.units + 1 := rfl
    have := Nat.min_le_right d.depth dx.depth
    omega
  · rw [show its.toArray.any (eqAs s.heap dx) = its.any (eqAs s.heap dx) by simp, any_eqAs r2 cs]
    exact q
end
end L2
namespace Op
open Fr
def befR (a b : Ray) : Bool := if a.1 = b.1 then decide (a.2 < b.2) else decide (a.1 < b.1)
def turnR (s e r : Ray) : Rat := (e.1 - s.1) * (r.2 - s.2) - (e.2 - s.2) * (r.1 - s.1)
def atR (cs : List Ray) (i : Nat) : Ray := cs.getD i (0, 0)
def prevR (cs : List Ray) (i : Nat) : Ray := if i = 0 then atR cs (cs.length - 1) else atR cs (i - 1)
def leftTo (cs : List Ray) (r : Ray) : Nat → Bool
  | 0 => true
  | i + 1 => leftTo cs r i && !decide (turnR (prevR cs i) (atR cs i) r < 0)
def withinR (cs : List Ray) (r : Ray) : Bool :=
  if cs.length < 2 then cs.any (fun c => decide (c = r)) else leftTo cs r cs.length && (if 2 < cs.length then true else !befR r (atR cs 0) && !befR (atR cs 1) r)
def crossR (a b : Ray) : Rat := a.1 * b.2 - a.2 * b.1
def twiceR (cs : List Ray) : Nat → Rat
  | 0 => 0
  | i + 1 => twiceR cs i + crossR (prevR cs i) (atR cs i)
def sizeR (cs : List Ray) : Rat := twiceR cs cs.length / 2
theorem left_iff (cs : List Ray) (r : Ray) : ∀ m, leftTo cs r m = true ↔ ∀ i, i < m → ¬ turnR (prevR cs i) (atR cs i) r < 0
  | 0 => by simp [leftTo]
  | m + 1 => by
    rw [leftTo, Bool.and_eq_true, left_iff cs r m]
    constructor
    · rintro ⟨h1, h2⟩ i hi
      by_cases e : i = m
      · subst e; simpa using h2
      · exact h1 i (by omega)
    · intro h
      exact ⟨fun i hi => h i (by omega), by simpa using h m (by omega)⟩
end Op
namespace Lib
open PySem L2 Fr Op
structure Rn (n : Nat) (r : Ray) : Prop where
  y : Bd n r.1
  u : Bd n r.2
def RBef : List PyData → PyData → Prop := fun ds d => ∃ a b n, ds = [rayD a, rayD b] ∧ Rn n a ∧ Rn n b ∧ n ≤ 4000 ∧ d = .bool (befR a b)
theorem atR_of {cs : List Ray} {i : Nat} {c : Ray} (h : cs[i]? = some c) : atR cs i = c := by
  unfold atR
  rw [List.getD_eq_getElem?_getD, h]
  rfl
theorem atR_mem {cs : List Ray} {i : Nat} (h : i < cs.length) : atR cs i ∈ cs := by
  rw [atR_of (List.getElem?_eq_getElem h)]
  exact List.getElem_mem h
theorem prevR_mem {cs : List Ray} {i : Nat} (h : i < cs.length) : prevR cs i ∈ cs := by
  unfold prevR
  split
  · exact atR_mem (by omega)
  · exact atR_mem (by omega)
theorem dvs_ray {K : PySem.W.Frag} {H : Hp} {xs : List V} {cs : List Ray} (h : DVs K H xs (cs.map rayD)) {i : Nat} (hi : i < cs.length) : ∃ v, xs[i]? = some v ∧ DV K H v (rayD (atR cs i)) := by
  have hl := h.len
  rw [List.length_map] at hl
  obtain ⟨d, hd, hv⟩ := h.get (i := i) (List.getElem?_eq_getElem (show i < xs.length by omega))
  obtain ⟨c, hc, rfl⟩ := get_map_ray hd
  rw [← atR_of hc] at hv
  exact ⟨_, List.getElem?_eq_getElem (show i < xs.length by omega), hv⟩
theorem atI_m1 {xs : List V} {v : V} (h : xs[xs.length - 1]? = some v) : atI xs (-1) = some v := last_get (by rw [List.getLast?_eq_getElem?]; exact h)
theorem dvs_prev {K : PySem.W.Frag} {H : Hp} {xs : List V} {cs : List Ray} (h : DVs K H xs (cs.map rayD)) {i : Nat} (hi : i < cs.length) : ∃ v, atI xs ((i : Int) - 1) = some v ∧ DV K H v (rayD (prevR cs i)) := by
  have hl := h.len
  rw [List.length_map] at hl
  cases i with
  | zero =>
    obtain ⟨v, hv, hd⟩ := dvs_ray h (i := cs.length - 1) (by omega)
    refine ⟨v, ?_, hd⟩
    rw [show (((0 : Nat) : Int) - 1) = -1 from rfl]
    exact atI_m1 (by rw [hl]; exact hv)
  | succ j =>
    obtain ⟨v, hv, hd⟩ := dvs_ray h (i := j) (by omega)
    refine ⟨v, ?_, hd⟩
    rw [show (((j + 1 : Nat) : Int) - 1) = (j : Int) by omega]
    exact atI_nat hv
theorem any_ray (cs : List Ray) (r : Ray) : (cs.map rayD).any (fun d => PyData.eqv d (rayD r)) = cs.any (fun c => decide (c = r)) := by
  induction cs with
  | nil => rfl
  | cons c cs ih => rw [List.map_cons, List.any_cons, List.any_cons, ih, eqv_ray]
theorem lay_rays (cs : List Ray) : PyData.canLayAll0 (cs.map rayD) = true := by
  induction cs with
  | nil => rfl
  | cons c cs ih =>
    rw [List.map_cons, PyData.canLayAll0, ih]
    rfl
end Lib
namespace Op
open Fr
abbrev Edg := Rat × Rat × Rat
def roomR (e : Edg) (r : Ray) : Rat := e.1 * r.1 + e.2.1 * r.2 + e.2.2
def mixR (t : Rat) (a b : Ray) : Ray := (a.1 + t * (b.1 - a.1), a.2 + t * (b.2 - a.2))
def cutT (e : Edg) (p q : Ray) : Rat := roomR e p / (roomR e p - roomR e q)
def crossP (e : Edg) (p q : Ray) : Ray := mixR (cutT e p q) p q
theorem room_mix (e : Edg) (t : Rat) (a b : Ray) : roomR e (mixR t a b) = (1 - t) * roomR e a + t * roomR e b := by
  unfold roomR mixR
  dsimp only
  grind
theorem turn_mix (p q : Ray) (t : Rat) (a b : Ray) : turnR p q (mixR t a b) = (1 - t) * turnR p q a + t * turnR p q b := by
  unfold turnR mixR
  dsimp only
  grind
theorem turn_rot (p q r : Ray) : turnR q r p = turnR p q r := by unfold turnR; grind
theorem turn_swap (p q r : Ray) : turnR p r q = - turnR p q r := by unfold turnR; grind
theorem turn_same (p r : Ray) : turnR p p r = 0 := by unfold turnR; grind
theorem turn_pqq (p q : Ray) : turnR p q q = 0 := by unfold turnR; grind
theorem turn_pqp (p q : Ray) : turnR p q p = 0 := by unfold turnR; grind
theorem turn_mix2 (t : Rat) (p q z : Ray) : turnR p (mixR t p q) z = t * turnR p q z := by
  unfold turnR mixR
  dsimp only
  grind
theorem turn_mix1 (t : Rat) (p q z : Ray) : turnR (mixR t p q) q z = (1 - t) * turnR p q z := by
  unfold turnR mixR
  dsimp only
  grind
theorem mulneg {a b : Rat} (h : a * b < 0) : (a < 0 ∧ 0 < b) ∨ (0 < a ∧ b < 0) := by
  rcases (show a < 0 ∨ a = 0 ∨ 0 < a by grind) with ha | ha | ha
  · rcases (show b < 0 ∨ b = 0 ∨ 0 < b by grind) with hb | hb | hb
    · have := Rat.mul_pos (show 0 < -a by grind) (show 0 < -b by grind)
      exfalso; grind
    · subst hb; exfalso; grind
    · exact .inl ⟨ha, hb⟩
  · subst ha; exfalso; grind
  · rcases (show b < 0 ∨ b = 0 ∨ 0 < b by grind) with hb | hb | hb
    · exact .inr ⟨ha, hb⟩
    · subst hb; exfalso; grind
    · have := Rat.mul_pos ha hb
      exfalso; grind
theorem negmul {a b : Rat} (ha : a < 0) (hb : 0 < b) : a * b < 0 := by
  have := Rat.mul_pos (show 0 < -a by grind) hb
  grind
theorem cutT_in {e : Edg} {p q : Ray} (h : roomR e p * roomR e q < 0) : 0 < cutT e p q ∧ cutT e p q < 1 := by
  unfold cutT
  generalize roomR e p = a at h ⊢
  generalize roomR e q = b at h ⊢
  have hd : a - b ≠ 0 := by rcases mulneg h with ⟨h1, h2⟩ | ⟨h1, h2⟩ <;> grind
  have e1 : a / (a - b) * (a - b) = a := by grind
  rcases mulneg h with ⟨h1, h2⟩ | ⟨h1, h2⟩
  · constructor
    · rcases (show a / (a - b) ≤ 0 ∨ 0 < a / (a - b) by grind) with c | c
      · have := Rat.mul_nonneg (show 0 ≤ -(a / (a - b)) by grind) (show 0 ≤ -(a - b) by grind)
        grind
      · exact c
    · rcases (show 1 ≤ a / (a - b) ∨ a / (a - b) < 1 by grind) with c | c
      · have := Rat.mul_nonneg (show 0 ≤ a / (a - b) - 1 by grind) (show 0 ≤ -(a - b) by grind)
        grind
      · exact c
  · constructor
    · rcases (show a / (a - b) ≤ 0 ∨ 0 < a / (a - b) by grind) with c | c
      · have := Rat.mul_nonneg (show 0 ≤ -(a / (a - b)) by grind) (show 0 ≤ (a - b) by grind)
        grind
      · exact c
    · rcases (show 1 ≤ a / (a - b) ∨ a / (a - b) < 1 by grind) with c | c
      · have := Rat.mul_nonneg (show 0 ≤ a / (a - b) - 1 by grind) (show 0 ≤ (a - b) by grind)
        grind
      · exact c
theorem cross_room {e : Edg} {p q : Ray} (h : roomR e p * roomR e q < 0) : roomR e (crossP e p q) = 0 := by
  unfold crossP
  rw [room_mix]
  unfold cutT
  generalize roomR e p = a at h ⊢
  generalize roomR e q = b at h ⊢
  have hd : a - b ≠ 0 := by rcases mulneg h with ⟨h1, h2⟩ | ⟨h1, h2⟩ <;> grind
  grind
theorem turn_line {e : Edg} {s t : Ray} (hs : roomR e s = 0) (ht : roomR e t = 0) (hst : s ≠ t) (he : e.1 ≠ 0 ∨ e.2.1 ≠ 0) : ∃ k : Rat, k ≠ 0 ∧ ∀ z, turnR s t z = k * roomR e z := by
  obtain ⟨a, b, c⟩ := e
  obtain ⟨s1, s2⟩ := s
  obtain ⟨t1, t2⟩ := t
  unfold roomR at hs ht ⊢
  unfold turnR
  dsimp only at hs ht he ⊢
  have hne : t1 - s1 ≠ 0 ∨ t2 - s2 ≠ 0 := by
    rcases (show t1 - s1 = 0 ∨ t1 - s1 ≠ 0 by grind) with c1 | c1
    · rcases (show t2 - s2 = 0 ∨ t2 - s2 ≠ 0 by grind) with c2 | c2
      · exact absurd (show ((s1, s2) : Ray) = (t1, t2) by rw [show t1 = s1 by grind, show t2 = s2 by grind]) hst
      · exact .inr c2
    · exact .inl c1
  rcases he with he | he
  · refine ⟨-(t2 - s2) / a, ?_, fun z => ?_⟩
    · intro h
      have h2 : t2 - s2 = 0 := by grind
      have h1 : a * (t1 - s1) = 0 := by grind
      rcases hne with h3 | h3
      · grind
      · exact h3 h2
    · grind
  · refine ⟨(t1 - s1) / b, ?_, fun z => ?_⟩
    · intro h
      have h2 : t1 - s1 = 0 := by grind
      have h1 : b * (t2 - s2) = 0 := by grind
      rcases hne with h3 | h3
      · exact h3 h2
      · grind
    · grind
end Op
namespace Op
open Fr
def pairsF (l : Ray) : List Ray → List (Ray × Ray)
  | [] => []
  | q :: r => (l, q) :: pairsF q r
def edgesR (ps : List Ray) : List (Ray × Ray) := match ps.getLast? with
  | none => []
  | some l => pairsF l ps
theorem pairsF_snoc (l q : Ray) : ∀ ps : List Ray, pairsF l (ps ++ [q]) = pairsF l ps ++ [(((l :: ps).getLast (by simp)), q)]
  | [] => rfl
  | p :: r => by
    show (l, p) :: pairsF p (r ++ [q]) = _
    rw [pairsF_snoc p q r]
    rfl
theorem pairsF_mem {l : Ray} {ps : List Ray} {x : Ray × Ray} (h : x ∈ pairsF l ps) : (x.1 = l ∨ x.1 ∈ ps) ∧ x.2 ∈ ps := by
  induction ps generalizing l with
  | nil => cases h
  | cons q r ih =>
    rcases List.mem_cons.mp (show x ∈ (l, q) :: pairsF q r from h) with rfl | h
    · exact ⟨.inl rfl, by simp⟩
    · obtain ⟨h1, h2⟩ := ih h
      exact ⟨.inr (by rcases h1 with h1 | h1 <;> simp [h1]), List.mem_cons_of_mem _ h2⟩
theorem edges_mem {ps : List Ray} {x : Ray × Ray} (h : x ∈ edgesR ps) : x.1 ∈ ps ∧ x.2 ∈ ps := by
  unfold edgesR at h
  cases e : ps.getLast? with
  | none => rw [e] at h; cases h
  | some l =>
    rw [e] at h
    obtain ⟨h1, h2⟩ := pairsF_mem h
    refine ⟨?_, h2⟩
    rcases h1 with h1 | h1
    · rw [h1]; exact List.mem_of_getLast? e
    · exact h1
theorem pairsF_into {l q : Ray} : ∀ {ps : List Ray}, q ∈ ps → ∃ p, (p, q) ∈ pairsF l ps
  | [], h => nomatch h
  | z :: r, h => by
    rcases List.mem_cons.mp h with rfl | h
    · exact ⟨l, by simp [pairsF]⟩
    · obtain ⟨p, hp⟩ := pairsF_into (l := z) h
      exact ⟨p, List.mem_cons_of_mem _ hp⟩
theorem edges_into {q : Ray} {ps : List Ray} (h : q ∈ ps) : ∃ p, (p, q) ∈ edgesR ps := by
  unfold edgesR
  cases e : ps.getLast? with
  | none => rw [List.getLast?_eq_none_iff] at e; subst e; cases h
  | some l => exact pairsF_into h
theorem pairsF_from {p : Ray} : ∀ {l : Ray} {ps : List Ray}, p ∈ l :: ps → (∃ q, (p, q) ∈ pairsF l ps) ∨ (l :: ps).getLast (by simp) = p
  | l, [], h => by rw [List.mem_singleton.mp h]; exact .inr rfl
  | l, z :: r, h => by
    rcases List.mem_cons.mp h with rfl | h
    · exact .inl ⟨z, by simp [pairsF]⟩
    · rcases pairsF_from h with ⟨q, hq⟩ | hq
      · exact .inl ⟨q, List.mem_cons_of_mem _ hq⟩
      · exact .inr (by rw [List.getLast_cons (by simp)]; exact hq)
theorem edges_from {p : Ray} {ps : List Ray} (h : p ∈ ps) : ∃ q, (p, q) ∈ edgesR ps := by
  cases ps with
  | nil => cases h
  | cons z r =>
    have e : (z :: r).getLast? = some ((z :: r).getLast (by simp)) := List.getLast?_eq_some_getLast (by simp)
    unfold edgesR
    rw [e]
    show ∃ q, (p, q) ∈ ((z :: r).getLast (by simp), z) :: pairsF z r
    rcases pairsF_from (l := z) (ps := r) h with ⟨q, hq⟩ | hq
    · exact ⟨q, List.mem_cons_of_mem _ hq⟩
    · exact ⟨z, by rw [hq]; simp⟩
structure ES (ps : List Ray) : Prop where
  nd : ps.Nodup
  st : ∀ x ∈ edgesR ps, ∀ z ∈ ps, z ≠ x.1 → z ≠ x.2 → 0 < turnR x.1 x.2 z
theorem ES.ge {ps : List Ray} (h : ES ps) {x : Ray × Ray} (hx : x ∈ edgesR ps) {z : Ray} (hz : z ∈ ps) : 0 ≤ turnR x.1 x.2 z := by
  by_cases c1 : z = x.1
  · rw [c1, turn_pqp]; exact Rat.le_refl
  · by_cases c2 : z = x.2
    · rw [c2, turn_pqq]; exact Rat.le_refl
    · have := h.st x hx z hz c1 c2
      grind
theorem pairsF_ne {l : Ray} {ps : List Ray} {x : Ray × Ray} (nd : (l :: ps).Nodup) (h : x ∈ pairsF l ps) : x.1 ≠ x.2 := by
  induction ps generalizing l with
  | nil => cases h
  | cons q r ih =>
    rcases List.mem_cons.mp (show x ∈ (l, q) :: pairsF q r from h) with rfl | h
    · intro e
      have := (List.nodup_cons.mp nd).1
      exact this (by rw [show l = q from e]; simp)
    · exact ih (List.nodup_cons.mp nd).2 h
theorem edges_ne {ps : List Ray} {x : Ray × Ray} (nd : ps.Nodup) (h2 : 2 ≤ ps.length) (h : x ∈ edgesR ps) : x.1 ≠ x.2 := by
  cases ps with
  | nil => simp at h2
  | cons z r =>
    have e : (z :: r).getLast? = some ((z :: r).getLast (by simp)) := List.getLast?_eq_some_getLast (by simp)
    unfold edgesR at h
    rw [e] at h
    rcases List.mem_cons.mp (show x ∈ ((z :: r).getLast (by simp), z) :: pairsF z r from h) with rfl | h
    · cases r with
      | nil => simp at h2
      | cons y r =>
        intro e
        have h3 : (z :: y :: r).getLast (by simp) = z := e
        rw [List.getLast_cons (by simp)] at h3
        exact (List.nodup_cons.mp nd).1 (by rw [← h3]; exact List.getLast_mem _)
    · exact pairsF_ne nd h
theorem third {ps : List Ray} (nd : ps.Nodup) (h3 : 3 ≤ ps.length) (p q : Ray) : ∃ z ∈ ps, z ≠ p ∧ z ≠ q := by
  match ps, nd, h3 with
  | a :: b :: c :: r, nd, _ =>
    have n1 := (List.nodup_cons.mp nd).1
    have n2 := (List.nodup_cons.mp (List.nodup_cons.mp nd).2).1
    have ab : a ≠ b := fun e => n1 (by rw [e]; simp)
    have ac : a ≠ c := fun e => n1 (by rw [e]; simp)
    have bc : b ≠ c := fun e => n2 (by rw [e]; simp)
    by_cases h1 : a = p ∨ a = q
    · by_cases h2 : b = p ∨ b = q
      · refine ⟨c, by simp, fun e => ?_, fun e => ?_⟩
        · rcases h1 with h1 | h1 <;> rcases h2 with h2 | h2
          · exact ab (h1.trans h2.symm)
          · exact ac (h1.trans e.symm)
          · exact bc (h2.trans e.symm)
          · exact ab (h1.trans h2.symm)
        · rcases h1 with h1 | h1 <;> rcases h2 with h2 | h2
          · exact ab (h1.trans h2.symm)
          · exact bc (h2.trans e.symm)
          · exact ac (h1.trans e.symm)
          · exact ab (h1.trans h2.symm)
      · exact ⟨b, by simp, fun e => h2 (.inl e), fun e => h2 (.inr e)⟩
    · exact ⟨a, by simp, fun e => h1 (.inl e), fun e => h1 (.inr e)⟩
theorem ES.back {ps : List Ray} (h : ES ps) (h3 : 3 ≤ ps.length) {p q : Ray} (h1 : (p, q) ∈ edgesR ps) (h2 : (q, p) ∈ edgesR ps) : False := by
  obtain ⟨z, hz, z1, z2⟩ := third h.nd h3 p q
  have a1 := h.st _ h1 z hz z1 z2
  have a2 := h.st _ h2 z hz z2 z1
  dsimp only at a1 a2
  have : turnR q p z = - turnR p q z := by unfold turnR; grind
  grind
theorem ES.mix {ps : List Ray} (h : ES ps) (h3 : 3 ≤ ps.length) {p q a b : Ray} (h1 : (p, q) ∈ edgesR ps) (h2 : (a, b) ∈ edgesR ps) (n : (a, b) ≠ (p, q)) {t : Rat} (t0 : 0 < t) (t1 : t < 1) : 0 < turnR p q (mixR t a b) := by
  rw [turn_mix]
  have ha := h.ge h1 (edges_mem h2).1
  have hb := h.ge h1 (edges_mem h2).2
  dsimp only at ha hb
  have nab := edges_ne h.nd (by omega) h2
  dsimp only at nab
  rcases (show turnR p q a = 0 ∨ 0 < turnR p q a by grind) with ca | ca
  · rcases (show turnR p q b = 0 ∨ 0 < turnR p q b by grind) with cb | cb
    · exfalso
      have in1 : a = p ∨ a = q := by
        by_cases c1 : a = p
        · exact .inl c1
        · by_cases c2 : a = q
          · exact .inr c2
          · have := h.st _ h1 a (edges_mem h2).1 c1 c2
            dsimp only at this
            grind
      have in2 : b = p ∨ b = q := by
        by_cases c1 : b = p
        · exact .inl c1
        · by_cases c2 : b = q
          · exact .inr c2
          · have := h.st _ h1 b (edges_mem h2).2 c1 c2
            dsimp only at this
            grind
      rcases in1 with rfl | rfl <;> rcases in2 with rfl | rfl
      · exact nab rfl
      · exact n rfl
      · exact h.back h3 h1 h2
      · exact nab rfl
    · have := Rat.mul_pos t0 cb
      rw [ca]
      grind
  · have x1 := Rat.mul_pos (show 0 < 1 - t by grind) ca
    have x2 := Rat.mul_nonneg (show 0 ≤ t by grind) hb
    grind
theorem between {f : Ray → Rat} {t : Rat} {s z m : Ray} (hf : f m = (1 - t) * f s + t * f z) (t0 : 0 < t) (t1 : t < 1) (hs : 0 ≤ f s) (hz : 0 ≤ f z) (hm : f m = 0) : f s = 0 ∧ f z = 0 := by
  rw [hm] at hf
  have a1 := Rat.mul_nonneg (show 0 ≤ 1 - t by grind) hs
  have a2 := Rat.mul_nonneg (show 0 ≤ t by grind) hz
  have b1 : (1 - t) * f s = 0 := by grind
  have b2 : t * f z = 0 := by grind
  constructor
  · rcases (show f s = 0 ∨ 0 < f s by grind) with c | c
    · exact c
    · have := Rat.mul_pos (show 0 < 1 - t by grind) c
      grind
  · rcases (show f z = 0 ∨ 0 < f z by grind) with c | c
    · exact c
    · have := Rat.mul_pos t0 c
      grind
end Op
namespace Op
open Fr
def emitC (e : Edg) (x : Ray × Ray) : List Ray := (if roomR e x.1 * roomR e x.2 < 0 then [crossP e x.1 x.2] else []) ++ (if 0 ≤ roomR e x.2 then [x.2] else [])
def cutN (e : Edg) (ps : List Ray) : List Ray := (edgesR ps).flatMap (emitC e)
theorem emit_mem {e : Edg} {x : Ray × Ray} {z : Ray} : z ∈ emitC e x ↔ (roomR e x.1 * roomR e x.2 < 0 ∧ z = crossP e x.1 x.2) ∨ (0 ≤ roomR e x.2 ∧ z = x.2) := by
  unfold emitC
  by_cases c1 : roomR e x.1 * roomR e x.2 < 0 <;> by_cases c2 : 0 ≤ roomR e x.2 <;> simp [c1, c2]
theorem cut_mem {e : Edg} {ps : List Ray} {z : Ray} : z ∈ cutN e ps ↔ (z ∈ ps ∧ 0 ≤ roomR e z) ∨ ∃ x ∈ edgesR ps, roomR e x.1 * roomR e x.2 < 0 ∧ z = crossP e x.1 x.2 := by
  unfold cutN
  rw [List.mem_flatMap]
  constructor
  · rintro ⟨x, hx, hz⟩
    rcases emit_mem.mp hz with ⟨h1, h2⟩ | ⟨h1, h2⟩
    · exact .inr ⟨x, hx, h1, h2⟩
    · rw [h2]; exact .inl ⟨(edges_mem hx).2, h1⟩
  · rintro (⟨h1, h2⟩ | ⟨x, hx, h1, h2⟩)
    · obtain ⟨p, hp⟩ := edges_into h1
      exact ⟨(p, z), hp, emit_mem.mpr (.inr ⟨h2, rfl⟩)⟩
    · exact ⟨x, hx, emit_mem.mpr (.inl ⟨h1, h2⟩)⟩
theorem cut_room {e : Edg} {ps : List Ray} {z : Ray} (h : z ∈ cutN e ps) : 0 ≤ roomR e z := by
  rcases cut_mem.mp h with ⟨_, h⟩ | ⟨x, _, h1, rfl⟩
  · exact h
  · rw [cross_room h1]; exact Rat.le_refl
theorem pairsF_snd (l : Ray) : ∀ ps : List Ray, (pairsF l ps).map Prod.snd = ps
  | [] => rfl
  | q :: r => by show q :: (pairsF q r).map Prod.snd = q :: r; rw [pairsF_snd q r]
theorem edges_snd (ps : List Ray) : (edgesR ps).map Prod.snd = ps := by
  unfold edgesR
  cases e : ps.getLast? with
  | none => rw [List.getLast?_eq_none_iff] at e; rw [e]; rfl
  | some l => exact pairsF_snd l ps
theorem mix_ne1 {t : Rat} {p q : Ray} (h : p ≠ q) (t0 : 0 < t) : mixR t p q ≠ p := fun e => by
  apply h
  have h1 := congrArg Prod.fst e
  have h2 := congrArg Prod.snd e
  unfold mixR at h1 h2
  dsimp only at h1 h2
  have g1 : t * (q.1 - p.1) = 0 := by grind
  have g2 : t * (q.2 - p.2) = 0 := by grind
  exact Prod.ext (by grind) (by grind)
theorem mix_ne2 {t : Rat} {p q : Ray} (h : p ≠ q) (t1 : t < 1) : mixR t p q ≠ q := fun e => by
  apply h
  have h1 := congrArg Prod.fst e
  have h2 := congrArg Prod.snd e
  unfold mixR at h1 h2
  dsimp only at h1 h2
  have g1 : (1 - t) * (q.1 - p.1) = 0 := by grind
  have g2 : (1 - t) * (q.2 - p.2) = 0 := by grind
  exact Prod.ext (by grind) (by grind)
theorem turn_on (p q : Ray) (t : Rat) : turnR p q (mixR t p q) = 0 := by rw [turn_mix, turn_pqp, turn_pqq]; grind
section
variable {e : Edg} {ps : List Ray} (h : ES ps) (h3 : 3 ≤ ps.length)
include h h3
theorem cross_off {x : Ray × Ray} (hx : x ∈ edgesR ps) (hc : roomR e x.1 * roomR e x.2 < 0) {z : Ray} (hz : z ∈ ps) : crossP e x.1 x.2 ≠ z := fun ez => by
  have t := cutT_in hc
  have n := edges_ne h.nd (by omega) hx
  have h0 : turnR x.1 x.2 z = 0 := by rw [← ez]; exact turn_on _ _ _
  by_cases c1 : z = x.1
  · exact mix_ne1 n t.1 (ez.trans c1)
  · by_cases c2 : z = x.2
    · exact mix_ne2 n t.2 (ez.trans c2)
    · have := h.st x hx z hz c1 c2
      grind
theorem cross_two {x y : Ray × Ray} (hx : x ∈ edgesR ps) (hy : y ∈ edgesR ps) (n : x ≠ y) (hc : roomR e x.1 * roomR e x.2 < 0) (hd : roomR e y.1 * roomR e y.2 < 0) : crossP e x.1 x.2 ≠ crossP e y.1 y.2 := fun ez => by
  have t := cutT_in hd
  have h1 : 0 < turnR x.1 x.2 (crossP e y.1 y.2) := h.mix (p := x.1) (q := x.2) (a := y.1) (b := y.2) h3 hx hy (fun z => n z.symm) t.1 t.2
  rw [← ez] at h1
  have h2 : turnR x.1 x.2 (crossP e x.1 x.2) = 0 := turn_on _ _ _
  grind
theorem cut_nodup : (cutN e ps).Nodup := by
  unfold cutN
  show List.Pairwise _ _
  rw [List.pairwise_flatMap]
  refine ⟨fun x hx => ?_, ?_⟩
  · unfold emitC
    by_cases c1 : roomR e x.1 * roomR e x.2 < 0
    · by_cases c2 : 0 ≤ roomR e x.2
      · rw [if_pos c1, if_pos c2]
        refine List.Pairwise.cons (fun z hz => ?_) (List.pairwise_singleton _ _)
        rw [List.mem_singleton.mp hz]
        exact cross_off h h3 hx c1 (edges_mem hx).2
      · rw [if_pos c1, if_neg c2]
        exact List.pairwise_singleton _ _
    · by_cases c2 : 0 ≤ roomR e x.2
      · rw [if_neg c1, if_pos c2]
        exact List.pairwise_singleton _ _
      · rw [if_neg c1, if_neg c2]
        exact List.Pairwise.nil
  · have nd := h.nd
    rw [← edges_snd ps] at nd
    have pw : (edgesR ps).Pairwise (fun a b => a.2 ≠ b.2) := List.pairwise_map.mp nd
    refine List.Pairwise.imp_of_mem (fun {a b} ha hb nab => ?_) pw
    intro x hx y hy exy
    have nab' : a ≠ b := fun z => nab (by rw [z])
    rcases emit_mem.mp hx with ⟨c1, rfl⟩ | ⟨c1, rfl⟩ <;> rcases emit_mem.mp hy with ⟨c2, e2⟩ | ⟨c2, e2⟩
    · exact cross_two h h3 ha hb nab' c1 c2 (exy.trans e2)
    · exact cross_off h h3 ha c1 (edges_mem hb).2 (exy.trans e2)
    · exact cross_off h h3 hb c2 (edges_mem ha).2 (e2.symm.trans exy.symm)
    · exact nab (exy.trans e2)
end
inductive NewE (e : Edg) (ps : List Ray) (s t : Ray) : Prop
  | old (p q : Ray) (k : Rat) : (p, q) ∈ edgesR ps → 0 < k → (∀ z, turnR s t z = k * turnR p q z) → (s = p ∨ (s = crossP e p q ∧ roomR e p < 0)) → (t = q ∨ (t = crossP e p q ∧ roomR e q < 0)) → (roomR e p * roomR e q < 0 → s = crossP e p q ∨ t = crossP e p q) → NewE e ps s t
  | cut (p q : Ray) (k : Rat) : roomR e s = 0 → roomR e t = 0 → (p, q) ∈ edgesR ps → roomR e q < 0 → 0 < k → (∀ z, turnR s q z = k * turnR p q z) → NewE e ps s t
def RelC (e : Edg) (ps : List Ray) (s l : Ray) : Prop := (0 ≤ roomR e l ∧ s = l) ∨ (roomR e l < 0 ∧ roomR e s = 0 ∧ ∃ p q k, (p, q) ∈ edgesR ps ∧ roomR e q < 0 ∧ 0 < k ∧ ∀ z, turnR s q z = k * turnR p q z)
theorem emit_cases (e : Edg) (l q : Ray) :
    (0 ≤ roomR e l ∧ 0 ≤ roomR e q ∧ ¬ roomR e l * roomR e q < 0 ∧ emitC e (l, q) = [q]) ∨ (0 < roomR e l ∧ roomR e q < 0 ∧ roomR e l * roomR e q < 0 ∧ emitC e (l, q) = [crossP e l q]) ∨ (roomR e l = 0 ∧ roomR e q < 0 ∧ emitC e (l, q) = []) ∨
    (roomR e l < 0 ∧ 0 < roomR e q ∧ roomR e l * roomR e q < 0 ∧ emitC e (l, q) = [crossP e l q, q]) ∨ (roomR e l < 0 ∧ roomR e q = 0 ∧ emitC e (l, q) = [q]) ∨ (roomR e l < 0 ∧ roomR e q < 0 ∧ emitC e (l, q) = []) := by
  unfold emitC
  dsimp only
  generalize roomR e l = a
  generalize roomR e q = b
  rcases (show a < 0 ∨ a = 0 ∨ 0 < a by grind) with ha | ha | ha <;> rcases (show b < 0 ∨ b = 0 ∨ 0 < b by grind) with hb | hb | hb
  · have n : ¬ a * b < 0 := fun z => by rcases mulneg z with h | h <;> grind
    exact .inr (.inr (.inr (.inr (.inr ⟨ha, hb, by rw [if_neg n, if_neg (by grind)]; rfl⟩))))
  · have n : ¬ a * b < 0 := fun z => by rcases mulneg z with h | h <;> grind
    exact .inr (.inr (.inr (.inr (.inl ⟨ha, hb, by rw [if_neg n, if_pos (by grind)]; rfl⟩))))
  · have n := negmul ha hb
    exact .inr (.inr (.inr (.inl ⟨ha, hb, n, by rw [if_pos n, if_pos (by grind)]; rfl⟩)))
  · have n : ¬ a * b < 0 := fun z => by rcases mulneg z with h | h <;> grind
    exact .inr (.inr (.inl ⟨ha, hb, by rw [if_neg n, if_neg (by grind)]; rfl⟩))
  · have n : ¬ a * b < 0 := fun z => by rcases mulneg z with h | h <;> grind
    exact .inl ⟨by grind, by grind, n, by rw [if_neg n, if_pos (by grind)]; rfl⟩
  · have n : ¬ a * b < 0 := fun z => by rcases mulneg z with h | h <;> grind
    exact .inl ⟨by grind, by grind, n, by rw [if_neg n, if_pos (by grind)]; rfl⟩
  · have n : a * b < 0 := by have := negmul hb ha; grind
    exact .inr (.inl ⟨ha, hb, n, by rw [if_pos n, if_neg (by grind)]; rfl⟩)
  · have n : ¬ a * b < 0 := fun z => by rcases mulneg z with h | h <;> grind
    exact .inl ⟨by grind, by grind, n, by rw [if_neg n, if_pos (by grind)]; rfl⟩
  · have n : ¬ a * b < 0 := fun z => by rcases mulneg z with h | h <;> grind
    exact .inl ⟨by grind, by grind, n, by rw [if_neg n, if_pos (by grind)]; rfl⟩
theorem chain_ok {e : Edg} {ps : List Ray} : ∀ (qs : List Ray) (l s : Ray), (∀ x ∈ pairsF l qs, x ∈ edgesR ps) → RelC e ps s l → ∀ y ∈ pairsF s ((pairsF l qs).flatMap (emitC e)), NewE e ps y.1 y.2
  | [], _, _, _, _, _, h => nomatch h
  | q :: r, l, s, hE, hR, y, hy => by
    have hlq : (l, q) ∈ edgesR ps := hE (l, q) (by simp [pairsF])
    have hE' : ∀ x ∈ pairsF q r, x ∈ edgesR ps := fun x hx => hE x (List.mem_cons_of_mem _ hx)
    have hy : y ∈ pairsF s (emitC e (l, q) ++ (pairsF q r).flatMap (emitC e)) := hy
    have ih := fun s' (hr : RelC e ps s' q) => chain_ok r q s' hE' hr y
    rcases emit_cases e l q with ⟨a, b, n, em⟩ | ⟨a, b, n, em⟩ | ⟨a, b, em⟩ | ⟨a, b, n, em⟩ | ⟨a, b, em⟩ | ⟨a, b, em⟩
    · have hs : s = l := by
        rcases hR with ⟨_, h⟩ | ⟨h, _⟩
        · exact h
        · exfalso; grind
      rw [em] at hy
      rcases List.mem_cons.mp (show y ∈ (s, q) :: pairsF q ((pairsF q r).flatMap (emitC e)) from hy) with rfl | hy
      · exact .old l q 1 hlq (by decide) (fun z => by dsimp only; rw [hs]; grind) (.inl hs) (.inl rfl) (fun z => absurd z n)
      · exact ih q (.inl ⟨b, rfl⟩) hy
    · have hs : s = l := by
        rcases hR with ⟨_, h⟩ | ⟨h, _⟩
        · exact h
        · exfalso; grind
      have t := cutT_in n
      rw [em] at hy
      rcases List.mem_cons.mp (show y ∈ (s, crossP e l q) :: pairsF (crossP e l q) ((pairsF q r).flatMap (emitC e)) from hy) with rfl | hy
      · exact .old l q (cutT e l q) hlq t.1 (fun z => by dsimp only; rw [hs]; exact turn_mix2 _ _ _ _) (.inl hs) (.inr ⟨rfl, b⟩) (fun _ => .inr rfl)
      · exact ih _ (.inr ⟨b, cross_room n, l, q, 1 - cutT e l q, hlq, b, by grind, fun z => turn_mix1 _ _ _ _⟩) hy
    · have hs : s = l := by
        rcases hR with ⟨_, h⟩ | ⟨h, _⟩
        · exact h
        · exfalso; grind
      rw [em] at hy
      exact ih s (.inr ⟨b, by rw [hs]; exact a, l, q, 1, hlq, b, by decide, fun z => by rw [hs]; grind⟩) hy
    · obtain ⟨h0, p', q', k', g1, g2, g3, g4⟩ : roomR e s = 0 ∧ ∃ p q k, (p, q) ∈ edgesR ps ∧ roomR e q < 0 ∧ 0 < k ∧ ∀ z, turnR s q z = k * turnR p q z := by
        rcases hR with ⟨h, _⟩ | ⟨_, h⟩
        · exfalso; grind
        · exact h
      have t := cutT_in n
      rw [em] at hy
      rcases List.mem_cons.mp (show y ∈ (s, crossP e l q) :: (crossP e l q, q) :: pairsF q ((pairsF q r).flatMap (emitC e)) from hy) with rfl | hy
      · exact .cut p' q' k' h0 (cross_room n) g1 g2 g3 g4
      · rcases List.mem_cons.mp hy with rfl | hy
        · exact .old l q (1 - cutT e l q) hlq (by grind) (fun z => turn_mix1 _ _ _ _) (.inr ⟨rfl, a⟩) (.inl rfl) (fun _ => .inl rfl)
        · exact ih q (.inl ⟨by grind, rfl⟩) hy
    · obtain ⟨h0, p', q', k', g1, g2, g3, g4⟩ : roomR e s = 0 ∧ ∃ p q k, (p, q) ∈ edgesR ps ∧ roomR e q < 0 ∧ 0 < k ∧ ∀ z, turnR s q z = k * turnR p q z := by
        rcases hR with ⟨h, _⟩ | ⟨_, h⟩
        · exfalso; grind
        · exact h
      rw [em] at hy
      rcases List.mem_cons.mp (show y ∈ (s, q) :: pairsF q ((pairsF q r).flatMap (emitC e)) from hy) with rfl | hy
      · exact .cut p' q' k' h0 b g1 g2 g3 g4
      · exact ih q (.inl ⟨by grind, rfl⟩) hy
    · have h0 : roomR e s = 0 ∧ ∃ p q k, (p, q) ∈ edgesR ps ∧ roomR e q < 0 ∧ 0 < k ∧ ∀ z, turnR s q z = k * turnR p q z := by
        rcases hR with ⟨h, _⟩ | ⟨_, h⟩
        · exfalso; grind
        · exact h
      rw [em] at hy
      exact ih s (.inr ⟨b, h0⟩) hy
theorem snoc_ind {P : List Ray → Prop} (h0 : P []) (h1 : ∀ xs x, P xs → P (xs ++ [x])) (l : List Ray) : P l := by
  have : ∀ n (l : List Ray), l.length = n → P l := by
    intro n
    induction n with
    | zero => intro l hl; rw [List.length_eq_zero_iff.mp hl]; exact h0
    | succ n ih =>
      intro l hl
      rcases List.eq_nil_or_concat l with rfl | ⟨xs, x, rfl⟩
      · simp at hl
      · have := h1 xs x (ih xs (by simp at hl; exact hl))
        simpa using this
  exact this _ l rfl
theorem chain_end {e : Edg} {ps : List Ray} (l : Ray) (qs : List Ray) (hE : ∀ x ∈ pairsF l qs, x ∈ edgesR ps) (v : Ray) (hv : ((pairsF l qs).flatMap (emitC e)).getLast? = some v) : RelC e ps v ((l :: qs).getLast (by simp)) := by
  induction qs using snoc_ind generalizing v with
  | h0 => cases hv
  | h1 xs q ih =>
    have e1 : (l :: (xs ++ [q])).getLast (by simp) = q := by
      have h1 : (l :: (xs ++ [q])).getLast? = some q := List.getLast?_concat (l := l :: xs) (a := q)
      rw [List.getLast?_eq_some_getLast (by simp)] at h1
      exact Option.some.inj h1
    rw [e1]
    rw [pairsF_snoc] at hE hv
    generalize hp : (l :: xs).getLast (by simp) = p at hE hv
    have hpq : (p, q) ∈ edgesR ps := hE _ (by simp)
    have ih' := ih (fun x hx => hE x (List.mem_append_left _ hx))
    rw [hp] at ih'
    rw [List.flatMap_append, show ([(p, q)] : List (Ray × Ray)).flatMap (emitC e) = emitC e (p, q) by simp] at hv
    rcases emit_cases e p q with ⟨a, b, n, em⟩ | ⟨a, b, n, em⟩ | ⟨a, b, em⟩ | ⟨a, b, n, em⟩ | ⟨a, b, em⟩ | ⟨a, b, em⟩
    · rw [em, List.getLast?_concat] at hv
      cases hv
      exact .inl ⟨b, rfl⟩
    · rw [em, List.getLast?_concat] at hv
      cases hv
      exact .inr ⟨b, cross_room n, p, q, 1 - cutT e p q, hpq, b, by have := (cutT_in n).2; grind, fun z => turn_mix1 _ _ _ _⟩
    · rw [em, List.append_nil] at hv
      rcases ih' v hv with ⟨_, h⟩ | ⟨h, _⟩
      · exact .inr ⟨b, by rw [h]; exact a, p, q, 1, hpq, b, by decide, fun z => by rw [h]; grind⟩
      · exfalso; grind
    · rw [em, show ((pairsF l xs).flatMap (emitC e)) ++ [crossP e p q, q] = ((pairsF l xs).flatMap (emitC e) ++ [crossP e p q]) ++ [q] by simp, List.getLast?_concat] at hv
      cases hv
      exact .inl ⟨by grind, rfl⟩
    · rw [em, List.getLast?_concat] at hv
      cases hv
      exact .inl ⟨by grind, rfl⟩
    · rw [em, List.append_nil] at hv
      rcases ih' v hv with ⟨h, _⟩ | ⟨_, h⟩
      · exfalso; grind
      · exact .inr ⟨b, h⟩
theorem cut_edges {e : Edg} {ps : List Ray} {y : Ray × Ray} (hy : y ∈ edgesR (cutN e ps)) : NewE e ps y.1 y.2 := by
  cases hp : ps.getLast? with
  | none =>
    rw [List.getLast?_eq_none_iff] at hp
    subst hp
    cases hy
  | some l =>
    have eE : edgesR ps = pairsF l ps := by unfold edgesR; rw [hp]
    have eC : cutN e ps = (pairsF l ps).flatMap (emitC e) := by unfold cutN; rw [eE]
    unfold edgesR at hy
    cases hv : (cutN e ps).getLast? with
    | none => rw [hv] at hy; cases hy
    | some v =>
      rw [hv] at hy
      dsimp only at hy
      rw [eC] at hy hv
      have h1 := chain_end (ps := ps) l ps (fun x hx => by rw [eE]; exact hx) v hv
      have e2 : (l :: ps).getLast (by simp) = l := by
        cases ps with
        | nil => cases hp
        | cons z r =>
          rw [List.getLast_cons (by simp)]
          have := List.getLast?_eq_some_getLast (l := z :: r) (by simp)
          rw [this] at hp
          exact Option.some.inj hp
      rw [e2] at h1
      exact chain_ok ps l v (fun x hx => by rw [eE]; exact hx) h1 y hy
end Op
namespace Op
open Fr
section
variable {e : Edg} {ps : List Ray} (h : ES ps) (h3 : 3 ≤ ps.length)
include h h3
theorem cut_ge {x : Ray × Ray} (hx : x ∈ edgesR ps) {z : Ray} (hz : z ∈ cutN e ps) : 0 ≤ turnR x.1 x.2 z := by
  rcases cut_mem.mp hz with ⟨h1, _⟩ | ⟨y, hy, hc, rfl⟩
  · exact h.ge hx h1
  · have t := cutT_in hc
    unfold crossP
    rw [turn_mix]
    have a := h.ge hx (edges_mem hy).1
    have b := h.ge hx (edges_mem hy).2
    have x1 := Rat.mul_nonneg (show 0 ≤ 1 - cutT e y.1 y.2 by grind) a
    have x2 := Rat.mul_nonneg (show 0 ≤ cutT e y.1 y.2 by grind) b
    grind
theorem line_three (he : e.1 ≠ 0 ∨ e.2.1 ≠ 0) {s z m : Ray} (hs : s ∈ cutN e ps) (hz : z ∈ cutN e ps) (hm : m ∈ cutN e ps) (rs : roomR e s = 0) (rz : roomR e z = 0) (rm : roomR e m = 0) (nsz : s ≠ z) {t : Rat} (t0 : 0 < t) (t1 : t < 1) (em : m = mixR t s z) : False := by
  obtain ⟨k, k0, hk⟩ := turn_line rs rz nsz he
  -- the edge that leads to m, or on which m lies
  have main : ∀ x ∈ edgesR ps, turnR x.1 x.2 m = 0 → roomR e x.1 = 0 ∧ roomR e x.2 = 0 := by
    intro x hx h0
    have a1 := cut_ge h h3 hx hs
    have a2 := cut_ge h h3 hx hz
    have hb := between (f := turnR x.1 x.2) (t := t) (s := s) (z := z) (m := m) (by rw [em]; exact turn_mix _ _ _ _ _) t0 t1 a1 a2 h0
    have n := edges_ne h.nd (by omega) hx
    have l1 : turnR s z x.1 = 0 := by
      have q1 := hb.1
      have q2 := hb.2
      unfold turnR at q1 q2 ⊢
      have nn : x.2.1 - x.1.1 ≠ 0 ∨ x.2.2 - x.1.2 ≠ 0 := by
        rcases (show x.2.1 - x.1.1 = 0 ∨ x.2.1 - x.1.1 ≠ 0 by grind) with c1 | c1
        · rcases (show x.2.2 - x.1.2 = 0 ∨ x.2.2 - x.1.2 ≠ 0 by grind) with c2 | c2
          · exact absurd (Prod.ext (by grind) (by grind)) n
          · exact .inr c2
        · exact .inl c1
      rcases nn with nn | nn <;> grind
    have l2 : turnR s z x.2 = 0 := by
      have q1 := hb.1
      have q2 := hb.2
      unfold turnR at q1 q2 ⊢
      have nn : x.2.1 - x.1.1 ≠ 0 ∨ x.2.2 - x.1.2 ≠ 0 := by
        rcases (show x.2.1 - x.1.1 = 0 ∨ x.2.1 - x.1.1 ≠ 0 by grind) with c1 | c1
        · rcases (show x.2.2 - x.1.2 = 0 ∨ x.2.2 - x.1.2 ≠ 0 by grind) with c2 | c2
          · exact absurd (Prod.ext (by grind) (by grind)) n
          · exact .inr c2
        · exact .inl c1
      rcases nn with nn | nn <;> grind
    rw [hk] at l1 l2
    constructor
    · rcases (show roomR e x.1 = 0 ∨ roomR e x.1 ≠ 0 by grind) with c | c
      · exact c
      · exfalso; grind
    · rcases (show roomR e x.2 = 0 ∨ roomR e x.2 ≠ 0 by grind) with c | c
      · exact c
      · exfalso; grind
  rcases cut_mem.mp hm with ⟨h1, _⟩ | ⟨y, hy, hc, e2⟩
  · obtain ⟨p, hp⟩ := edges_into h1
    obtain ⟨q, hq⟩ := edges_from h1
    have r1 := (main (p, m) hp (by dsimp only; exact turn_pqq _ _)).1
    have r2 := (main (m, q) hq (by dsimp only; exact turn_pqp _ _)).2
    dsimp only at r1 r2
    have nm := edges_ne h.nd (by omega) hq
    have np := edges_ne h.nd (by omega) hp
    dsimp only at nm np
    have npq : p ≠ q := fun z => h.back h3 hp (by rw [z]; exact hq)
    have st := h.st (p, m) hp q (edges_mem hq).2 (fun z => npq z.symm) (fun z => nm z.symm)
    dsimp only at st
    obtain ⟨k2, k20, hk2⟩ := turn_line r1 rm np he
    rw [hk2, r2] at st
    grind
  · have r := main y hy (by rw [e2]; exact turn_on _ _ _)
    rw [r.1, r.2] at hc
    grind
end
theorem line_par {s z m : Ray} (nsz : s ≠ z) (h0 : turnR s z m = 0) : ∃ t, m = mixR t s z := by
  obtain ⟨s1, s2⟩ := s
  obtain ⟨z1, z2⟩ := z
  obtain ⟨m1, m2⟩ := m
  unfold turnR at h0
  unfold mixR
  dsimp only at h0 ⊢
  rcases (show z1 - s1 = 0 ∨ z1 - s1 ≠ 0 by grind) with c1 | c1
  · rcases (show z2 - s2 = 0 ∨ z2 - s2 ≠ 0 by grind) with c2 | c2
    · exact absurd (show ((s1, s2) : Ray) = (z1, z2) by rw [show z1 = s1 by grind, show z2 = s2 by grind]) nsz
    · refine ⟨(m2 - s2) / (z2 - s2), ?_⟩
      have g1 : m1 = s1 := by grind
      rw [g1]
      refine Prod.ext ?_ ?_ <;> dsimp only <;> grind
  · refine ⟨(m1 - s1) / (z1 - s1), ?_⟩
    refine Prod.ext ?_ ?_ <;> dsimp only
    · grind
    · have : (m2 - s2) * (z1 - s1) = (z2 - s2) * (m1 - s1) := by grind
      have g : (m1 - s1) / (z1 - s1) * (z1 - s1) = m1 - s1 := by grind
      grind
theorem divmul {a b : Rat} (hb : 0 < b) : (a / b) * b = a := by grind
theorem divpos {a b : Rat} (ha : 0 < a) (hb : 0 < b) : 0 < a / b := by
  have g := divmul (a := a) hb
  generalize a / b = c at g
  rcases (show c ≤ 0 ∨ 0 < c by grind) with z | z
  · have := Rat.mul_nonneg (show 0 ≤ -c by grind) (show 0 ≤ b by grind)
    grind
  · exact z
theorem divlt1 {a b : Rat} (hab : a < b) (hb : 0 < b) : a / b < 1 := by
  have g := divmul (a := a) hb
  generalize a / b = c at g
  rcases (show 1 ≤ c ∨ c < 1 by grind) with z | z
  · have := Rat.mul_nonneg (show 0 ≤ c - 1 by grind) (show 0 ≤ b by grind)
    grind
  · exact z
theorem mix_inv1 {s z : Ray} {t u : Rat} (g : u * (1 - t) = -t) : s = mixR u (mixR t s z) z := by
  unfold mixR
  refine Prod.ext ?_ ?_ <;> dsimp only <;> grind
theorem mix_inv2 {s z : Ray} {t u : Rat} (g : u * t = 1) : z = mixR u s (mixR t s z) := by
  unfold mixR
  refine Prod.ext ?_ ?_ <;> dsimp only <;> grind
theorem mix_zero (s z : Ray) : mixR 0 s z = s := by unfold mixR; exact Prod.ext (by dsimp only; grind) (by dsimp only; grind)
theorem mix_one (s z : Ray) : mixR 1 s z = z := by unfold mixR; exact Prod.ext (by dsimp only; grind) (by dsimp only; grind)
theorem on_line_mix {s z m : Ray} (nsz : s ≠ z) (nsm : s ≠ m) (nzm : z ≠ m) (h0 : turnR s z m = 0) : (∃ t, 0 < t ∧ t < 1 ∧ m = mixR t s z) ∨ (∃ t, 0 < t ∧ t < 1 ∧ s = mixR t m z) ∨ (∃ t, 0 < t ∧ t < 1 ∧ z = mixR t s m) := by
  obtain ⟨t, ht⟩ := line_par nsz h0
  have t0 : t ≠ 0 := fun c => nsm (by rw [ht, c, mix_zero])
  have t1 : t ≠ 1 := fun c => nzm (by rw [ht, c, mix_one])
  clear nsz nsm nzm h0
  rcases (show t < 0 ∨ (0 < t ∧ t < 1) ∨ 1 < t by grind) with c | c | c
  · exact .inr (.inl ⟨(-t) / (1 - t), divpos (by grind) (by grind), divlt1 (by grind) (by grind), by rw [ht]; exact mix_inv1 (divmul (by grind))⟩)
  · exact .inl ⟨t, c.1, c.2, ht⟩
  · exact .inr (.inr ⟨1 / t, divpos (by grind) (by grind), divlt1 (by grind) (by grind), by rw [ht]; exact mix_inv2 (divmul (by grind))⟩)
section
variable {e : Edg} {ps : List Ray} (h : ES ps) (h3 : 3 ≤ ps.length)
include h h3
theorem cut_two (he : e.1 ≠ 0 ∨ e.2.1 ≠ 0) {s z m : Ray} (hs : s ∈ cutN e ps) (hz : z ∈ cutN e ps) (hm : m ∈ cutN e ps) (rs : roomR e s = 0) (rz : roomR e z = 0) (nsz : s ≠ z) (nsm : m ≠ s) (nzm : m ≠ z) : 0 < roomR e m := by
  rcases (show roomR e m = 0 ∨ 0 < roomR e m by have := cut_room hm; grind) with c | c
  · exfalso
    obtain ⟨k, k0, hk⟩ := turn_line rs rz nsz he
    have h0 : turnR s z m = 0 := by rw [hk, c]; grind
    rcases on_line_mix nsz (Ne.symm nsm) (Ne.symm nzm) h0 with ⟨t, t0, t1, em⟩ | ⟨t, t0, t1, em⟩ | ⟨t, t0, t1, em⟩
    · exact line_three h h3 he hs hz hm rs rz c nsz t0 t1 em
    · exact line_three h h3 he hm hz hs c rz rs nzm t0 t1 em
    · exact line_three h h3 he hs hm hz rs c rz (Ne.symm nsm) t0 t1 em
  · exact c
theorem cut_ES (he : e.1 ≠ 0 ∨ e.2.1 ≠ 0) (h2 : 2 ≤ (cutN e ps).length) : ES (cutN e ps) := by
  have nd := cut_nodup (e := e) h h3
  refine ⟨nd, fun y hy z hz z1 z2 => ?_⟩
  have nst := edges_ne nd h2 hy
  obtain ⟨s, t⟩ := y
  have ms := (edges_mem hy).1
  have mt := (edges_mem hy).2
  have ny := cut_edges hy
  dsimp only at nst ms mt ny z1 z2 ⊢
  cases ny with
  | old p q k hpq k0 hk hs ht hx =>
    rw [hk]
    have key : 0 < turnR p q z := by
      rcases cut_mem.mp hz with ⟨hzp, rz⟩ | ⟨y, hy', hc, ez⟩
      · refine h.st (p, q) hpq z hzp ?_ ?_
        · intro c
          dsimp only at c
          rcases hs with hs | ⟨_, hs⟩
          · exact z1 (c.trans hs.symm)
          · rw [c] at rz; grind
        · intro c
          dsimp only at c
          rcases ht with ht | ⟨_, ht⟩
          · exact z2 (c.trans ht.symm)
          · rw [c] at rz; grind
      · by_cases c : y = (p, q)
        · subst c
          rcases hx hc with hx | hx
          · exact absurd (ez.trans hx.symm) z1
          · exact absurd (ez.trans hx.symm) z2
        · rw [ez]
          have t' := cutT_in hc
          exact h.mix h3 hpq (a := y.1) (b := y.2) hy' c t'.1 t'.2
    exact Rat.mul_pos k0 key
  | cut p q k rs rt hpq rq k0 hk =>
    obtain ⟨c, c0, hc⟩ := turn_line rs rt nst he
    have g1 : turnR s t q = c * roomR e q := hc q
    have g2 : turnR s q t = k * turnR p q t := hk t
    have g3 := cut_ge h h3 hpq mt
    dsimp only at g3
    have g4 : turnR s q t = - turnR s t q := turn_swap s t q
    have g5 := Rat.mul_nonneg (show 0 ≤ k by grind) g3
    have cp : 0 < c := by
      rcases (show c < 0 ∨ 0 < c by grind) with cc | cc
      · have := Rat.mul_pos (show 0 < -c by grind) (show 0 < - roomR e q by grind)
        grind
      · exact cc
    rw [hc]
    exact Rat.mul_pos cp (cut_two h h3 he ms mt hz rs rt nst z1 z2)
theorem cut_len {w : Ray} (hw : w ∈ ps) (rw' : 0 < roomR e w) : 3 ≤ (cutN e ps).length := by
  obtain ⟨p, hp⟩ := edges_into hw
  obtain ⟨q, hq⟩ := edges_from hw
  have np := edges_ne h.nd (by omega) hp
  have nq := edges_ne h.nd (by omega) hq
  dsimp only at np nq
  have npq : p ≠ q := fun z => h.back h3 hp (by rw [z]; exact hq)
  have ww : w ∈ cutN e ps := cut_mem.mpr (.inl ⟨hw, by grind⟩)
  -- a ray on the edge to w, a ray on the edge from w
  obtain ⟨a, ha, na, ta, da⟩ : ∃ a ∈ cutN e ps, a ≠ w ∧ turnR p w a = 0 ∧ 0 < turnR w q a := by
    have hpq : 0 < turnR w q p := h.st (w, q) hq p (edges_mem hp).1 np npq
    rcases (show 0 ≤ roomR e p ∨ roomR e p < 0 by grind) with c | c
    · exact ⟨p, cut_mem.mpr (.inl ⟨(edges_mem hp).1, c⟩), np, turn_pqp _ _, hpq⟩
    · have n := negmul c rw'
      have t := cutT_in n
      refine ⟨crossP e p w, cut_mem.mpr (.inr ⟨(p, w), hp, n, rfl⟩), mix_ne2 np t.2, turn_on _ _ _, ?_⟩
      unfold crossP
      rw [turn_mix, turn_pqp]
      have := Rat.mul_pos (show 0 < 1 - cutT e p w by grind) hpq
      grind
  obtain ⟨b, hb, nb, tb⟩ : ∃ b ∈ cutN e ps, b ≠ w ∧ turnR w q b = 0 := by
    rcases (show 0 ≤ roomR e q ∨ roomR e q < 0 by grind) with c | c
    · exact ⟨q, cut_mem.mpr (.inl ⟨(edges_mem hq).2, c⟩), Ne.symm nq, turn_pqq _ _⟩
    · have n : roomR e w * roomR e q < 0 := by have := negmul c rw'; grind
      have t := cutT_in n
      exact ⟨crossP e w q, cut_mem.mpr (.inr ⟨(w, q), hq, n, rfl⟩), mix_ne1 nq t.1, turn_on _ _ _⟩
  have nab : a ≠ b := fun z => by rw [z, tb] at da; grind
  have nd := cut_nodup (e := e) h h3
  generalize cutN e ps = cs at *
  match cs, nd, ww, ha, hb with
  | [], _, h1, _, _ => cases h1
  | [x], _, h1, h2, h3 =>
    exfalso
    exact na ((List.mem_singleton.mp h2).trans (List.mem_singleton.mp h1).symm)
  | [x, y], _, h1, h2, h3 =>
    exfalso
    simp only [List.mem_cons, List.not_mem_nil, or_false] at h1 h2 h3
    rcases h1 with h1 | h1 <;> rcases h2 with h2 | h2 <;> rcases h3 with h3 | h3 <;> first
      | exact na (h2.trans h1.symm)
      | exact nb (h3.trans h1.symm)
      | exact nab (h2.trans h3.symm)
  | _ :: _ :: _ :: _, _, _, _, _ => simp
end
end Op
namespace Op
open Fr
structure Aff (f : Ray → Rat) : Prop where
  ex : ∃ a b c : Rat, ∀ r : Ray, f r = a * r.1 + b * r.2 + c
theorem aff_room (e : Edg) : Aff (roomR e) := ⟨e.1, e.2.1, e.2.2, fun _ => rfl⟩
theorem aff_turn (p q : Ray) : Aff (turnR p q) := ⟨-(q.2 - p.2), q.1 - p.1, (q.2 - p.2) * p.1 - (q.1 - p.1) * p.2, fun r => by unfold turnR; grind⟩
structure Mean (a b c x : Ray) : Prop where
  ex : ∃ u v w : Rat, 0 ≤ u ∧ 0 ≤ v ∧ 0 ≤ w ∧ u + v + w = 1 ∧ x.1 = u * a.1 + v * b.1 + w * c.1 ∧ x.2 = u * a.2 + v * b.2 + w * c.2
theorem Mean.aff {a b c x : Ray} {f : Ray → Rat} (hf : Aff f) : ∀ {u v w : Rat}, u + v + w = 1 → x.1 = u * a.1 + v * b.1 + w * c.1 → x.2 = u * a.2 + v * b.2 + w * c.2 → f x = u * f a + v * f b + w * f c := by
  obtain ⟨A, B, C, h⟩ := hf.ex
  intro u v w h1 h2 h3
  rw [h x, h a, h b, h c, h2, h3]
  grind
theorem nn3 {u v w a b c : Rat} (hu : 0 ≤ u) (hv : 0 ≤ v) (hw : 0 ≤ w) (ha : 0 ≤ a) (hb : 0 ≤ b) (hc : 0 ≤ c) : 0 ≤ u * a + v * b + w * c := by
  have h1 := Rat.mul_nonneg hu ha
  have h2 := Rat.mul_nonneg hv hb
  have h3 := Rat.mul_nonneg hw hc
  grind
theorem Mean.ge {a b c x : Ray} (m : Mean a b c x) {f : Ray → Rat} (hf : Aff f) (ha : 0 ≤ f a) (hb : 0 ≤ f b) (hc : 0 ≤ f c) : 0 ≤ f x := by
  obtain ⟨u, v, w, hu, hv, hw, h1, h2, h3⟩ := m.ex
  rw [Mean.aff hf h1 h2 h3]
  exact nn3 hu hv hw ha hb hc
theorem tri_mean {a b c x : Ray} (T : 0 < turnR a b c) (h1 : 0 ≤ turnR b c x) (h2 : 0 ≤ turnR c a x) (h3 : 0 ≤ turnR a b x) : Mean a b c x := by
  have s : turnR b c x + turnR c a x + turnR a b x = turnR a b c := by unfold turnR; grind
  have ge : ∀ y : Rat, 0 ≤ y → 0 ≤ y / turnR a b c := fun y hy => by
    rcases (show y = 0 ∨ 0 < y by grind) with c | c
    · rw [c]; grind
    · have := divpos c T; grind
  refine ⟨turnR b c x / turnR a b c, turnR c a x / turnR a b c, turnR a b x / turnR a b c, ge _ h1, ge _ h2, ge _ h3, ?_, ?_, ?_⟩
  · have : turnR a b c ≠ 0 := by grind
    have e : turnR b c x / turnR a b c + turnR c a x / turnR a b c + turnR a b x / turnR a b c = (turnR b c x + turnR c a x + turnR a b x) / turnR a b c := by grind
    rw [e, s]
    grind
  · have : turnR a b c ≠ 0 := by grind
    have g : turnR b c x * a.1 + turnR c a x * b.1 + turnR a b x * c.1 = turnR a b c * x.1 := by unfold turnR; grind
    have e : turnR b c x / turnR a b c * a.1 + turnR c a x / turnR a b c * b.1 + turnR a b x / turnR a b c * c.1 = (turnR b c x * a.1 + turnR c a x * b.1 + turnR a b x * c.1) / turnR a b c := by grind
    rw [e, g]
    grind
  · have : turnR a b c ≠ 0 := by grind
    have g : turnR b c x * a.2 + turnR c a x * b.2 + turnR a b x * c.2 = turnR a b c * x.2 := by unfold turnR; grind
    have e : turnR b c x / turnR a b c * a.2 + turnR c a x / turnR a b c * b.2 + turnR a b x / turnR a b c * c.2 = (turnR b c x * a.2 + turnR c a x * b.2 + turnR a b x * c.2) / turnR a b c := by grind
    rw [e, g]
    grind
theorem fan {p0 x : Ray} : ∀ (l : Ray) (qs : List Ray), 0 ≤ turnR p0 l x → turnR p0 ((l :: qs).getLast (by simp)) x ≤ 0 → (∃ y ∈ pairsF l qs, 0 ≤ turnR p0 y.1 x ∧ turnR p0 y.2 x ≤ 0) ∨ (qs = [] ∧ turnR p0 l x = 0)
  | l, [], h1, h2 => .inr ⟨rfl, by have : turnR p0 l x ≤ 0 := h2; grind⟩
  | l, q :: r, h1, h2 => by
    rcases (show 0 ≤ turnR p0 q x ∨ turnR p0 q x < 0 by grind) with c | c
    · rcases fan q r c (by rw [List.getLast_cons (by simp)] at h2; exact h2) with ⟨y, hy, hh⟩ | ⟨_, h0⟩
      · exact .inl ⟨y, List.mem_cons_of_mem _ hy, hh⟩
      · exact .inl ⟨(l, q), by simp [pairsF], h1, by dsimp only; grind⟩
    · exact .inl ⟨(l, q), by simp [pairsF], h1, by dsimp only; grind⟩
theorem within_mean {ps : List Ray} (h : ES ps) (h3 : 3 ≤ ps.length) {x : Ray} (hx : ∀ y ∈ edgesR ps, 0 ≤ turnR y.1 y.2 x) : ∃ a ∈ ps, ∃ b ∈ ps, ∃ c ∈ ps, Mean a b c x := by
  match ps, h, h3, hx with
  | p0 :: p1 :: p2 :: r, h, h3, hx =>
    have el : (p0 :: p1 :: p2 :: r).getLast? = some ((p0 :: p1 :: p2 :: r).getLast (by simp)) := List.getLast?_eq_some_getLast (by simp)
    have eE : edgesR (p0 :: p1 :: p2 :: r) = ((p1 :: p2 :: r).getLast (by simp), p0) :: (p0, p1) :: pairsF p1 (p2 :: r) := by
      unfold edgesR
      rw [el]
      rfl
    have e1 := hx (p0, p1) (by rw [eE]; simp)
    have e2 := hx ((p1 :: p2 :: r).getLast (by simp), p0) (by rw [eE]; simp)
    dsimp only at e1 e2
    have e3 : turnR p0 ((p1 :: p2 :: r).getLast (by simp)) x ≤ 0 := by
      have : turnR ((p1 :: p2 :: r).getLast (by simp)) p0 x = - turnR p0 ((p1 :: p2 :: r).getLast (by simp)) x := by unfold turnR; grind
      grind
    rcases fan p1 (p2 :: r) e1 e3 with ⟨y, hy, g1, g2⟩ | ⟨hn, _⟩
    · have hyE : y ∈ edgesR (p0 :: p1 :: p2 :: r) := by rw [eE]; exact List.mem_cons_of_mem _ (List.mem_cons_of_mem _ hy)
      obtain ⟨m1, m2⟩ := pairsF_mem hy
      have nd := h.nd
      have n0 := (List.nodup_cons.mp nd).1
      have k1 : y.1 ∈ p1 :: p2 :: r := by rcases m1 with m1 | m1 <;> simp [m1]
      have k2 : y.2 ∈ p1 :: p2 :: r := List.mem_cons_of_mem _ m2
      have T := h.st y hyE p0 (by simp) (fun z => n0 (by rw [z]; exact k1)) (fun z => n0 (by rw [z]; exact k2))
      refine ⟨p0, by simp, y.1, List.mem_cons_of_mem _ k1, y.2, List.mem_cons_of_mem _ k2, tri_mean ?_ (hx y hyE) ?_ g1⟩
      · rw [← turn_rot]; exact T
      · have : turnR y.2 p0 x = - turnR p0 y.2 x := by unfold turnR; grind
        grind
    · cases hn
def InP : List Ray → Ray → Prop
  | [], _ => False
  | [p], x => x = p
  | [p, q], x => ∃ t, 0 ≤ t ∧ t ≤ 1 ∧ x = mixR t p q
  | p :: q :: r :: s, x => ∀ y ∈ edgesR (p :: q :: r :: s), 0 ≤ turnR y.1 y.2 x
theorem InP.three {ps : List Ray} (h3 : 3 ≤ ps.length) {x : Ray} : InP ps x ↔ ∀ y ∈ edgesR ps, 0 ≤ turnR y.1 y.2 x := by
  match ps, h3 with
  | p :: q :: r :: s, _ => exact Iff.rfl
theorem within_aff {ps : List Ray} (h : ES ps) (h3 : 3 ≤ ps.length) {x : Ray} (hx : InP ps x) {f : Ray → Rat} (hf : Aff f) (hp : ∀ p ∈ ps, 0 ≤ f p) : 0 ≤ f x := by
  obtain ⟨a, ha, b, hb, c, hc, m⟩ := within_mean h h3 ((InP.three h3).mp hx)
  exact m.ge hf (hp a ha) (hp b hb) (hp c hc)
section
variable {e : Edg} {ps : List Ray} (h : ES ps) (h3 : 3 ≤ ps.length) (he : e.1 ≠ 0 ∨ e.2.1 ≠ 0)
include h h3 he
theorem cut_in {w : Ray} (hw : w ∈ ps) (rw' : 0 < roomR e w) (x : Ray) : InP (cutN e ps) x ↔ InP ps x ∧ 0 ≤ roomR e x := by
  have h3' := cut_len h h3 hw rw'
  have hE := cut_ES h h3 he (by omega)
  constructor
  · intro hx
    refine ⟨(InP.three h3).mpr fun y hy => within_aff hE h3' hx (aff_turn _ _) fun p hp => cut_ge h h3 hy hp, within_aff hE h3' hx (aff_room e) fun p hp => cut_room hp⟩
  · rintro ⟨hx, rx⟩
    rw [InP.three h3]at hx
    refine (InP.three h3').mpr fun y hy => ?_
    have nst := edges_ne hE.nd (by omega) hy
    obtain ⟨s, t⟩ := y
    have mt := (edges_mem hy).2
    have ny := cut_edges hy
    dsimp only at nst mt ny ⊢
    cases ny with
    | old p q k hpq k0 hk hs ht hc =>
      rw [hk]
      exact Rat.mul_nonneg (by grind) (hx (p, q) hpq)
    | cut p q k rs rt hpq rq k0 hk =>
      obtain ⟨c, c0, hc⟩ := turn_line rs rt nst he
      have g1 : turnR s t q = c * roomR e q := hc q
      have g2 : turnR s q t = k * turnR p q t := hk t
      have g3 := cut_ge h h3 hpq mt
      dsimp only at g3
      have g4 : turnR s q t = - turnR s t q := turn_swap s t q
      have g5 := Rat.mul_nonneg (show 0 ≤ k by grind) g3
      have cp : 0 < c := by
        rcases (show c < 0 ∨ 0 < c by grind) with cc | cc
        · have := Rat.mul_pos (show 0 < -c by grind) (show 0 < - roomR e q by grind)
          grind
        · exact cc
      rw [hc]
      exact Rat.mul_nonneg (by grind) rx
end
end Op
namespace Op
open Fr
def cutG (e : Edg) : List (Ray × Ray) → List Ray → List Ray
  | [], left => left
  | x :: r, left => cutG e r ((if roomR e x.1 * roomR e x.2 < 0 ∧ crossP e x.1 x.2 ∉ left then left ++ [crossP e x.1 x.2] else left) ++ (if 0 ≤ roomR e x.2 then [x.2] else []))
def cutS (e : Edg) (ps : List Ray) : List Ray := cutG e (edgesR ps) []
theorem cutG_eq (e : Edg) : ∀ (xs : List (Ray × Ray)) (left : List Ray), (left ++ xs.flatMap (emitC e)).Nodup → cutG e xs left = left ++ xs.flatMap (emitC e)
  | [], left, _ => by simp [cutG]
  | x :: r, left, h => by
    rw [List.flatMap_cons, ← List.append_assoc] at h ⊢
    have hl := (List.nodup_append.mp h).1
    rw [cutG]
    have e1 : (if roomR e x.1 * roomR e x.2 < 0 ∧ crossP e x.1 x.2 ∉ left then left ++ [crossP e x.1 x.2] else left) ++ (if 0 ≤ roomR e x.2 then [x.2] else []) = left ++ emitC e x := by
      unfold emitC at hl ⊢
      by_cases c : roomR e x.1 * roomR e x.2 < 0
      · rw [if_pos c] at hl ⊢
        have nm : crossP e x.1 x.2 ∉ left := fun m => (List.nodup_append.mp hl).2.2 _ m _ (by simp) rfl
        rw [if_pos ⟨c, nm⟩, List.append_assoc]
      · rw [if_neg c, if_neg (fun z => c z.1)]
        rfl
    rw [e1]
    exact cutG_eq e r _ h
theorem cutS_eq {e : Edg} {ps : List Ray} (h : (cutN e ps).Nodup) : cutS e ps = cutN e ps := by
  have := cutG_eq e (edgesR ps) [] (by rw [List.nil_append]; exact h)
  unfold cutS
  rw [this]
  rfl
theorem ES.no_three {ps : List Ray} (h : ES ps) (h3 : 3 ≤ ps.length) {a b c : Ray} (ha : a ∈ ps) (hb : b ∈ ps) (hc : c ∈ ps) (nab : a ≠ b) (nbc : b ≠ c) (nac : a ≠ c) {t : Rat} (t0 : 0 < t) (t1 : t < 1) (eb : b = mixR t a c) : False := by
  obtain ⟨p, hp⟩ := edges_into hb
  have g1 := h.ge hp ha
  have g2 := h.ge hp hc
  have g3 : turnR p b b = (1 - t) * turnR p b a + t * turnR p b c := by
    have := turn_mix p b t a c
    rw [← eb] at this
    exact this
  rw [turn_pqq] at g3
  obtain ⟨z1, z2⟩ := between (f := turnR p b) (s := a) (z := c) (m := b) (by rw [turn_pqq]; exact g3) t0 t1 g1 g2 (turn_pqq p b)
  have e1 : a = p := by
    by_cases c1 : a = p
    · exact c1
    · have := h.st _ hp a ha c1 nab
      dsimp only at this
      grind
  have e2 : c = p := by
    by_cases c1 : c = p
    · exact c1
    · have := h.st _ hp c hc c1 (fun z => nbc z.symm)
      dsimp only at this
      grind
  exact nac (e1.trans e2.symm)
theorem ES.no_line {ps : List Ray} (h : ES ps) (h3 : 3 ≤ ps.length) {e : Edg} (he : e.1 ≠ 0 ∨ e.2.1 ≠ 0) {a b c : Ray} (ha : a ∈ ps) (hb : b ∈ ps) (hc : c ∈ ps) (nab : a ≠ b) (nbc : b ≠ c) (nac : a ≠ c) (ra : roomR e a = 0) (rb : roomR e b = 0) (rc : roomR e c = 0) : False := by
  obtain ⟨k, k0, hk⟩ := turn_line ra rb nab he
  have h0 : turnR a b c = 0 := by rw [hk, rc]; grind
  rcases on_line_mix nab nac nbc h0 with ⟨t, t0, t1, e⟩ | ⟨t, t0, t1, e⟩ | ⟨t, t0, t1, e⟩
  · exact h.no_three h3 ha hc hb nac (fun z => nbc z.symm) nab t0 t1 e
  · exact h.no_three h3 hc ha hb (fun z => nac z.symm) nab (fun z => nbc z.symm) t0 t1 e
  · exact h.no_three h3 ha hb hc nab nbc nac t0 t1 e
theorem ES.nil : ES [] := ⟨List.nodup_nil, fun x hx => nomatch hx⟩
theorem ES.one (p : Ray) : ES [p] := ⟨by simp, fun x hx z hz n1 n2 => by
  have := (edges_mem hx).1
  simp only [List.mem_singleton] at this hz
  exact absurd (hz.trans this.symm) n1⟩
theorem ES.two {p q : Ray} (n : p ≠ q) : ES [p, q] := ⟨by simpa using n, fun x hx z hz n1 n2 => by
  have hx : x ∈ [(q, p), (p, q)] := hx
  simp only [List.mem_cons, List.not_mem_nil, or_false] at hx hz
  rcases hx with rfl | rfl <;> rcases hz with rfl | rfl <;> first | exact absurd rfl n1 | exact absurd rfl n2⟩
theorem len_cases (l : List Ray) : l = [] ∨ (∃ p, l = [p]) ∨ (∃ p q, l = [p, q]) ∨ 3 ≤ l.length := by
  match l with
  | [] => exact .inl rfl
  | [p] => exact .inr (.inl ⟨p, rfl⟩)
  | [p, q] => exact .inr (.inr (.inl ⟨p, q, rfl⟩))
  | p :: q :: r :: s => exact .inr (.inr (.inr (by simp)))
theorem flat_filter (e : Edg) : ∀ (xs : List (Ray × Ray)), (∀ x ∈ xs, ¬ roomR e x.1 * roomR e x.2 < 0) → xs.flatMap (emitC e) = (xs.map Prod.snd).filter (fun z => decide (0 ≤ roomR e z))
  | [], _ => rfl
  | x :: r, h => by
    rw [List.flatMap_cons, flat_filter e r fun x hx => h x (List.mem_cons_of_mem _ hx), List.map_cons, List.filter_cons]
    unfold emitC
    rw [if_neg (h x (List.mem_cons_self ..))]
    by_cases c : 0 ≤ roomR e x.2
    · rw [if_pos c, if_pos (decide_eq_true c)]; rfl
    · rw [if_neg c, if_neg (by simpa using c)]; rfl
section
variable {e : Edg} {ps : List Ray}
theorem cut_none (hn : ∀ p ∈ ps, ¬ 0 < roomR e p) : cutN e ps = ps.filter (fun z => decide (0 ≤ roomR e z)) := by
  unfold cutN
  rw [flat_filter e (edgesR ps), edges_snd]
  intro x hx c
  have h1 := hn _ (edges_mem hx).1
  have h2 := hn _ (edges_mem hx).2
  rcases mulneg c with h | h <;> grind
theorem cut_none_nodup (h : ES ps) (hn : ∀ p ∈ ps, ¬ 0 < roomR e p) : (cutN e ps).Nodup := by
  rw [cut_none hn]
  exact h.nd.filter _
end
theorem mean_two {p q x : Ray} {t : Rat} (t0 : 0 ≤ t) (t1 : t ≤ 1) (e : x = mixR t p q) {f : Ray → Rat} (hf : Aff f) (hp : 0 ≤ f p) (hq : 0 ≤ f q) : 0 ≤ f x := by
  obtain ⟨a, b, c, h⟩ := hf
  have e2 : f x = (1 - t) * f p + t * f q := by rw [e, h, h, h]; unfold mixR; dsimp only; grind
  rw [e2]
  have h1 := Rat.mul_nonneg (show 0 ≤ 1 - t by grind) hp
  have h2 := Rat.mul_nonneg t0 hq
  grind
theorem in_aff {ps : List Ray} (h : ES ps) {x : Ray} (hx : InP ps x) {f : Ray → Rat} (hf : Aff f) (hp : ∀ p ∈ ps, 0 ≤ f p) : 0 ≤ f x := by
  rcases len_cases ps with rfl | ⟨p, rfl⟩ | ⟨p, q, rfl⟩ | h3
  · exact hx.elim
  · have hx : x = p := hx
    rw [hx]; exact hp p (by simp)
  · obtain ⟨t, t0, t1, e⟩ : ∃ t, 0 ≤ t ∧ t ≤ 1 ∧ x = mixR t p q := hx
    exact mean_two t0 t1 e hf (hp p (by simp)) (hp q (by simp))
  · exact within_aff h h3 hx hf hp
theorem in_self {ps : List Ray} (h : ES ps) {x : Ray} (hx : x ∈ ps) : InP ps x := by
  rcases len_cases ps with rfl | ⟨p, rfl⟩ | ⟨p, q, rfl⟩ | h3
  · cases hx
  · exact List.mem_singleton.mp hx
  · rcases List.mem_cons.mp hx with rfl | hx
    · exact ⟨0, by grind, by grind, (mix_zero _ _).symm⟩
    · rw [List.mem_singleton.mp hx]
      exact ⟨1, by grind, by grind, (mix_one _ _).symm⟩
  · exact (InP.three h3).mpr fun y hy => h.ge hy hx
end Op
namespace Op
open Fr
theorem wz {u v w a b c : Rat} (hu : 0 ≤ u) (hv : 0 ≤ v) (hw : 0 ≤ w) (ha : a ≤ 0) (hb : b ≤ 0) (hc : c ≤ 0) (h : 0 ≤ u * a + v * b + w * c) : u * a = 0 ∧ v * b = 0 ∧ w * c = 0 := by
  have h1 := Rat.mul_nonneg hu (show 0 ≤ -a by grind)
  have h2 := Rat.mul_nonneg hv (show 0 ≤ -b by grind)
  have h3 := Rat.mul_nonneg hw (show 0 ≤ -c by grind)
  grind
theorem mulz {u a : Rat} (h : u * a = 0) : u = 0 ∨ a = 0 := by
  rcases Rat.mul_eq_zero.mp h with h | h
  · exact .inl h
  · exact .inr h
theorem share {u : Rat} {a p q : Ray} (hu : 0 ≤ u) (h : u = 0 ∨ a = p ∨ a = q) : ∃ t, 0 ≤ t ∧ t ≤ u ∧ u * a.1 = (u - t) * p.1 + t * q.1 ∧ u * a.2 = (u - t) * p.2 + t * q.2 := by
  rcases h with rfl | rfl | rfl
  · exact ⟨0, by grind, by grind, by grind, by grind⟩
  · exact ⟨0, by grind, by grind, by grind, by grind⟩
  · exact ⟨u, by grind, by grind, by grind, by grind⟩
section
variable {e : Edg} {ps : List Ray} (h : ES ps) (h3 : 3 ≤ ps.length) (he : e.1 ≠ 0 ∨ e.2.1 ≠ 0) (hn : ∀ p ∈ ps, ¬ 0 < roomR e p)
include h h3 he hn
theorem none_len : (cutN e ps).length ≤ 2 := by
  rw [cut_none hn]
  have mem : ∀ z ∈ ps.filter (fun z => decide (0 ≤ roomR e z)), z ∈ ps ∧ roomR e z = 0 := fun z hz => by
    have := List.mem_filter.mp hz
    have h1 := hn z this.1
    have h2 : 0 ≤ roomR e z := of_decide_eq_true this.2
    exact ⟨this.1, by grind⟩
  have nd : (ps.filter (fun z => decide (0 ≤ roomR e z))).Nodup := h.nd.filter _
  generalize ps.filter (fun z => decide (0 ≤ roomR e z)) = l at mem nd
  match l, mem, nd with
  | [], _, _ => simp
  | [_], _, _ => simp
  | [_, _], _, _ => simp
  | a :: b :: c :: r, mem, nd =>
    exfalso
    obtain ⟨a1, a2⟩ := mem a (by simp)
    obtain ⟨b1, b2⟩ := mem b (by simp)
    obtain ⟨c1, c2⟩ := mem c (by simp)
    simp only [List.nodup_cons, List.mem_cons, not_or] at nd
    exact h.no_line h3 he a1 b1 c1 nd.1.1 nd.2.1.1 nd.1.2.1 a2 b2 c2
theorem none_ES : ES (cutN e ps) := by
  have l := none_len h h3 he hn
  have nd := cut_none_nodup h hn
  rcases len_cases (cutN e ps) with c | ⟨p, c⟩ | ⟨p, q, c⟩ | c
  · rw [c]; exact ES.nil
  · rw [c]; exact ES.one p
  · rw [c] at nd ⊢
    exact ES.two (by simpa using nd)
  · omega
theorem none_in (x : Ray) : InP (cutN e ps) x ↔ InP ps x ∧ 0 ≤ roomR e x := by
  have hE := none_ES h h3 he hn
  constructor
  · intro hx
    refine ⟨(InP.three h3).mpr fun y hy => in_aff hE hx (aff_turn _ _) fun p hp => ?_, in_aff hE hx (aff_room e) fun p hp => cut_room hp⟩
    rw [cut_none hn] at hp
    exact h.ge hy (List.mem_filter.mp hp).1
  · rintro ⟨hx, rx⟩
    obtain ⟨a, ha, b, hb, c, hc, m⟩ := within_mean h h3 ((InP.three h3).mp hx)
    obtain ⟨u, v, w, hu, hv, hw, s1, s2, s3⟩ := m.ex
    rw [Mean.aff (aff_room e) s1 s2 s3] at rx
    obtain ⟨z1, z2, z3⟩ := wz hu hv hw (show roomR e a ≤ 0 by have := hn a ha; grind) (show roomR e b ≤ 0 by have := hn b hb; grind) (show roomR e c ≤ 0 by have := hn c hc; grind) rx
    have key : ∀ {u : Rat} {a : Ray}, a ∈ ps → u * roomR e a = 0 → u = 0 ∨ a ∈ cutN e ps := fun ha z => by
      rcases mulz z with z | z
      · exact .inl z
      · refine .inr ?_
        rw [cut_none hn]
        exact List.mem_filter.mpr ⟨ha, decide_eq_true (by grind)⟩
    have k1 := key ha z1
    have k2 := key hb z2
    have k3 := key hc z3
    have l := none_len h h3 he hn
    rcases len_cases (cutN e ps) with c | ⟨p, c⟩ | ⟨p, q, c⟩ | c
    · rw [c] at k1 k2 k3
      simp only [List.not_mem_nil, or_false] at k1 k2 k3
      grind
    · rw [c] at k1 k2 k3 ⊢
      simp only [List.mem_singleton] at k1 k2 k3
      show x = p
      obtain ⟨t1, _, _, a1, a2⟩ := share (p := p) (q := p) hu (k1.imp id .inl)
      obtain ⟨t2, _, _, b1, b2⟩ := share (p := p) (q := p) hv (k2.imp id .inl)
      obtain ⟨t3, _, _, c1, c2⟩ := share (p := p) (q := p) hw (k3.imp id .inl)
      exact Prod.ext (by rw [s2]; grind) (by rw [s3]; grind)
    · rw [c] at k1 k2 k3 ⊢
      simp only [List.mem_cons, List.not_mem_nil, or_false] at k1 k2 k3
      obtain ⟨t1, p1, q1, a1, a2⟩ := share (p := p) (q := q) hu k1
      obtain ⟨t2, p2, q2, b1, b2⟩ := share (p := p) (q := q) hv k2
      obtain ⟨t3, p3, q3, c1, c2⟩ := share (p := p) (q := q) hw k3
      refine ⟨t1 + t2 + t3, by grind, by grind, ?_⟩
      unfold mixR
      exact Prod.ext (by rw [s2, a1, b1, c1]; dsimp only; grind) (by rw [s3, a2, b2, c2]; dsimp only; grind)
    · omega
end
theorem cross_sym {e : Edg} {p q : Ray} (h : roomR e p * roomR e q < 0) : crossP e q p = crossP e p q := by
  have n : roomR e p - roomR e q ≠ 0 := by rcases mulneg h with z | z <;> grind
  have n2 : roomR e q - roomR e p ≠ 0 := by grind
  have g : cutT e q p = 1 - cutT e p q := by unfold cutT; grind
  unfold crossP mixR
  rw [g]
  exact Prod.ext (by dsimp only; grind) (by dsimp only; grind)
theorem cut_two_eq (e : Edg) (p q : Ray) : cutS e [p, q] =
    if roomR e p * roomR e q < 0 then (if 0 ≤ roomR e p then [crossP e p q, p] else [crossP e p q, q]) else (if 0 ≤ roomR e p then [p] else []) ++ (if 0 ≤ roomR e q then [q] else []) := by
  have e1 : cutS e [p, q] = cutG e [(q, p), (p, q)] [] := rfl
  rw [e1]
  unfold cutG cutG cutG
  dsimp only
  have cm : roomR e q * roomR e p = roomR e p * roomR e q := Rat.mul_comm _ _
  rw [cm]
  by_cases c : roomR e p * roomR e q < 0
  · have i1 : (if roomR e p * roomR e q < 0 ∧ crossP e q p ∉ ([] : List Ray) then [] ++ [crossP e q p] else []) = [crossP e p q] := by
      rw [if_pos ⟨c, List.not_mem_nil⟩, cross_sym c]; rfl
    rw [i1, if_pos c]
    by_cases c1 : 0 ≤ roomR e p
    · have c2 : ¬ 0 ≤ roomR e q := by rcases mulneg c with z | z <;> grind
      rw [if_pos c1, if_neg c2, if_pos c1, if_neg (fun z => z.2 (by simp))]
      rfl
    · have c2 : 0 ≤ roomR e q := by rcases mulneg c with z | z <;> grind
      rw [if_neg c1, if_pos c2, if_neg c1, if_neg (fun z => z.2 (by simp))]
      rfl
  · rw [if_neg c, if_neg (fun z => c z.1), if_neg (fun z => c z.1)]
    rfl
theorem half_in {e : Edg} {p q x : Ray} (hp : roomR e p < 0) (hq : 0 < roomR e q) : (∃ t, 0 ≤ t ∧ t ≤ 1 ∧ x = mixR t (crossP e p q) q) ↔ (∃ t, 0 ≤ t ∧ t ≤ 1 ∧ x = mixR t p q) ∧ 0 ≤ roomR e x := by
  have hc : roomR e p * roomR e q < 0 := negmul hp hq
  obtain ⟨c0, c1⟩ := cutT_in hc
  have r0 := cross_room hc
  have er : (1 - cutT e p q) * roomR e p + cutT e p q * roomR e q = 0 := by rw [← room_mix]; exact r0
  unfold crossP
  generalize cutT e p q = c at c0 c1 er
  constructor
  · rintro ⟨t, t0, t1, rfl⟩
    have e1 : mixR t (mixR c p q) q = mixR (c + t * (1 - c)) p q := by unfold mixR; exact Prod.ext (by dsimp only; grind) (by dsimp only; grind)
    have n1 := Rat.mul_nonneg t0 (show 0 ≤ 1 - c by grind)
    have n2 := Rat.mul_nonneg (show 0 ≤ 1 - t by grind) (show 0 ≤ 1 - c by grind)
    refine ⟨⟨c + t * (1 - c), by grind, by grind, e1⟩, ?_⟩
    rw [room_mix, room_mix, er]
    have := Rat.mul_nonneg t0 (show 0 ≤ roomR e q by grind)
    grind
  · rintro ⟨⟨t, t0, t1, rfl⟩, rx⟩
    rw [room_mix] at rx
    have n0 : 0 < roomR e q - roomR e p := by grind
    have ct : c ≤ t := by
      rcases (show c ≤ t ∨ t < c by grind) with h | h
      · exact h
      · exfalso
        have := Rat.mul_pos (show 0 < c - t by grind) n0
        grind
    refine ⟨(t - c) / (1 - c), ?_, ?_, ?_⟩
    · rcases (show t = c ∨ 0 < t - c by grind) with h | h
      · rw [h]; grind
      · have := divpos h (show 0 < 1 - c by grind); grind
    · rcases (show t = 1 ∨ t < 1 by grind) with h | h
      · rw [h]; grind
      · have := divlt1 (a := t - c) (b := 1 - c) (by grind) (by grind); grind
    · have g : (t - c) / (1 - c) * (1 - c) = t - c := divmul (by grind)
      generalize (t - c) / (1 - c) = s at g
      have e1 : mixR s (mixR c p q) q = mixR (c + s * (1 - c)) p q := by unfold mixR; exact Prod.ext (by dsimp only; grind) (by dsimp only; grind)
      rw [e1, g]
      congr 1
      grind
theorem mix_back (t : Rat) (p q : Ray) : mixR t p q = mixR (1 - t) q p := by unfold mixR; exact Prod.ext (by dsimp only; grind) (by dsimp only; grind)
theorem seg_swap {p q x : Ray} : (∃ t, 0 ≤ t ∧ t ≤ 1 ∧ x = mixR t p q) ↔ (∃ t, 0 ≤ t ∧ t ≤ 1 ∧ x = mixR t q p) := by
  constructor <;> rintro ⟨t, t0, t1, e⟩ <;> exact ⟨1 - t, by grind, by grind, by rw [e, mix_back]⟩
theorem cross_ne {e : Edg} {p q : Ray} (h : roomR e p * roomR e q < 0) : crossP e p q ≠ p ∧ crossP e p q ≠ q := by
  have r := cross_room h
  refine ⟨fun z => ?_, fun z => ?_⟩
  · rw [z] at r; rw [r] at h; grind
  · rw [z] at r; rw [r] at h; grind
theorem two_ok {e : Edg} {p q : Ray} (n : p ≠ q) : ES (cutS e [p, q]) ∧ ∀ x, InP (cutS e [p, q]) x ↔ InP [p, q] x ∧ 0 ≤ roomR e x := by
  rw [cut_two_eq]
  by_cases c : roomR e p * roomR e q < 0
  · rw [if_pos c]
    by_cases c1 : 0 ≤ roomR e p
    · rw [if_pos c1]
      refine ⟨ES.two (cross_ne c).1, fun x => ?_⟩
      have hs : roomR e q < 0 ∧ 0 < roomR e p := by rcases mulneg c with z | z <;> grind
      have hh := half_in (x := x) hs.1 hs.2
      rw [cross_sym c] at hh
      show (∃ t, 0 ≤ t ∧ t ≤ 1 ∧ x = mixR t (crossP e p q) p) ↔ (∃ t, 0 ≤ t ∧ t ≤ 1 ∧ x = mixR t p q) ∧ _
      rw [hh, seg_swap]
    · rw [if_neg c1]
      have hs : roomR e p < 0 ∧ 0 < roomR e q := by rcases mulneg c with z | z <;> grind
      exact ⟨ES.two (cross_ne c).2, fun x => half_in hs.1 hs.2⟩
  · rw [if_neg c]
    have room : ∀ t, roomR e (mixR t p q) = (1 - t) * roomR e p + t * roomR e q := fun t => room_mix e t p q
    by_cases c1 : 0 ≤ roomR e p
    · by_cases c2 : 0 ≤ roomR e q
      · rw [if_pos c1, if_pos c2]
        refine ⟨ES.two n, fun x => ⟨fun hx => ⟨hx, ?_⟩, fun hx => hx.1⟩⟩
        exact in_aff (ES.two n) hx (aff_room e) fun r hr => by
          simp only [List.mem_cons, List.not_mem_nil, or_false] at hr
          rcases hr with rfl | rfl <;> assumption
      · have z : roomR e p = 0 := by
          rcases (show roomR e p = 0 ∨ 0 < roomR e p by grind) with h | h
          · exact h
          · exfalso; exact c (by have := negmul (show roomR e q < 0 by grind) h; rw [Rat.mul_comm]; exact this)
        rw [if_pos c1, if_neg c2]
        refine ⟨ES.one p, fun x => ?_⟩
        show x = p ↔ (∃ t, 0 ≤ t ∧ t ≤ 1 ∧ x = mixR t p q) ∧ _
        constructor
        · rintro rfl
          exact ⟨⟨0, by grind, by grind, (mix_zero _ _).symm⟩, c1⟩
        · rintro ⟨⟨t, t0, t1, rfl⟩, rx⟩
          rw [room, z] at rx
          have : t = 0 := by
            rcases (show t = 0 ∨ 0 < t by grind) with h | h
            · exact h
            · have := Rat.mul_pos h (show 0 < - roomR e q by grind); grind
          rw [this, mix_zero]
    · by_cases c2 : 0 ≤ roomR e q
      · have z : roomR e q = 0 := by
          rcases (show roomR e q = 0 ∨ 0 < roomR e q by grind) with h | h
          · exact h
          · exfalso; exact c (negmul (show roomR e p < 0 by grind) h)
        rw [if_neg c1, if_pos c2]
        refine ⟨ES.one q, fun x => ?_⟩
        show x = q ↔ (∃ t, 0 ≤ t ∧ t ≤ 1 ∧ x = mixR t p q) ∧ _
        constructor
        · rintro rfl
          exact ⟨⟨1, by grind, by grind, (mix_one _ _).symm⟩, c2⟩
        · rintro ⟨⟨t, t0, t1, rfl⟩, rx⟩
          rw [room, z] at rx
          have : t = 1 := by
            rcases (show t = 1 ∨ 0 < 1 - t by grind) with h | h
            · exact h
            · have := Rat.mul_pos h (show 0 < - roomR e p by grind); grind
          rw [this, mix_one]
      · rw [if_neg c1, if_neg c2]
        refine ⟨ES.nil, fun x => ⟨fun hx => hx.elim, ?_⟩⟩
        rintro ⟨⟨t, t0, t1, rfl⟩, rx⟩
        rw [room] at rx
        have h1 := Rat.mul_nonneg t0 (show 0 ≤ - roomR e q by grind)
        have h2 := Rat.mul_nonneg (show 0 ≤ 1 - t by grind) (show 0 ≤ - roomR e p by grind)
        rcases (show t = 0 ∨ 0 < t by grind) with h | h
        · rw [h] at rx; grind
        · have := Rat.mul_pos h (show 0 < - roomR e q by grind); grind
theorem one_eq (e : Edg) (p : Ray) : cutS e [p] = if 0 ≤ roomR e p then [p] else [] := by
  have e1 : cutS e [p] = cutG e [(p, p)] [] := rfl
  rw [e1]
  unfold cutG cutG
  dsimp only
  have c : ¬ roomR e p * roomR e p < 0 := fun z => by rcases mulneg z with h | h <;> grind
  rw [if_neg (fun z => c z.1)]
  rfl
theorem cutS_three {e : Edg} {ps : List Ray} (h : ES ps) (h3 : 3 ≤ ps.length) : cutS e ps = cutN e ps := cutS_eq (cut_nodup h h3)
theorem cutS_ok {e : Edg} {ps : List Ray} (h : ES ps) (he : e.1 ≠ 0 ∨ e.2.1 ≠ 0) : ES (cutS e ps) ∧ ∀ x, InP (cutS e ps) x ↔ InP ps x ∧ 0 ≤ roomR e x := by
  rcases len_cases ps with rfl | ⟨p, rfl⟩ | ⟨p, q, rfl⟩ | h3
  · exact ⟨ES.nil, fun x => ⟨fun hx => hx.elim, fun hx => hx.1⟩⟩
  · rw [one_eq]
    by_cases c : 0 ≤ roomR e p
    · rw [if_pos c]
      exact ⟨ES.one p, fun x => ⟨fun hx => ⟨hx, by rw [show x = p from hx]; exact c⟩, fun hx => hx.1⟩⟩
    · rw [if_neg c]
      exact ⟨ES.nil, fun x => ⟨fun hx => hx.elim, fun hx => c (by rw [← show x = p from hx.1]; exact hx.2)⟩⟩
  · exact two_ok (by simpa using h.nd)
  · rw [cutS_three h h3]
    by_cases c : ∃ w ∈ ps, 0 < roomR e w
    · obtain ⟨w, hw, rw'⟩ := c
      exact ⟨cut_ES h h3 he (by have := cut_len h h3 hw rw'; omega), cut_in h h3 he hw rw'⟩
    · have hn : ∀ p ∈ ps, ¬ 0 < roomR e p := fun p hp z => c ⟨p, hp, z⟩
      exact ⟨none_ES h h3 he hn, none_in h h3 he hn⟩
end Op
namespace Op
open Fr
def isCross (e : Edg) (x : Ray × Ray) : Bool := decide (roomR e x.1 * roomR e x.2 < 0)
theorem flat_len (e : Edg) : ∀ xs : List (Ray × Ray), (xs.flatMap (emitC e)).length = (xs.filter (isCross e)).length + ((xs.map Prod.snd).filter (fun z => decide (0 ≤ roomR e z))).length
  | [] => rfl
  | x :: r => by
    rw [List.flatMap_cons, List.length_append, flat_len e r, List.map_cons, List.filter_cons, List.filter_cons]
    unfold emitC isCross
    by_cases c1 : roomR e x.1 * roomR e x.2 < 0 <;> by_cases c2 : 0 ≤ roomR e x.2
    · rw [if_pos c1, if_pos c2, if_pos (decide_eq_true c1), if_pos (decide_eq_true c2)]
      simp only [List.length_append, List.length_cons, List.length_nil]; omega
    · rw [if_pos c1, if_neg c2, if_pos (decide_eq_true c1), if_neg (by simpa using c2)]
      simp only [List.length_append, List.length_cons, List.length_nil]; omega
    · rw [if_neg c1, if_pos c2, if_neg (by simpa using c1), if_pos (decide_eq_true c2)]
      simp only [List.length_append, List.length_cons, List.length_nil]; omega
    · rw [if_neg c1, if_neg c2, if_neg (by simpa using c1), if_neg (by simpa using c2)]
      simp only [List.length_append, List.length_nil]; omega
theorem nodup_of_map {α β : Type} {f : α → β} : ∀ {l : List α}, (l.map f).Nodup → l.Nodup
  | [], _ => List.nodup_nil
  | a :: r, h => by
    rw [List.map_cons, List.nodup_cons] at h
    exact List.nodup_cons.mpr ⟨fun m => h.1 (List.mem_map_of_mem m), nodup_of_map h.2⟩
theorem cut_count {e : Edg} {ps : List Ray} (h : ES ps) (he : e.1 ≠ 0 ∨ e.2.1 ≠ 0) : (cutS e ps).length ≤ ps.length + 1 := by
  rcases len_cases ps with rfl | ⟨p, rfl⟩ | ⟨p, q, rfl⟩ | h3
  · exact Nat.zero_le _
  · rw [one_eq]; split <;> simp
  · rw [cut_two_eq]
    split
    · split <;> simp
    · split <;> split <;> simp
  · rw [cutS_three h h3]
    unfold cutN
    rw [flat_len, edges_snd]
    have ndE : (edgesR ps).Nodup := nodup_of_map (f := Prod.snd) (by rw [edges_snd]; exact h.nd)
    have nd : ((edgesR ps).filter (isCross e)).Nodup := ndE.filter _
    have mem : ∀ x ∈ (edgesR ps).filter (isCross e), x ∈ edgesR ps ∧ roomR e x.1 * roomR e x.2 < 0 := fun x hx => ⟨(List.mem_filter.mp hx).1, of_decide_eq_true (List.mem_filter.mp hx).2⟩
    have le := List.length_filter_le (fun z => decide (0 ≤ roomR e z)) ps
    have two : ((edgesR ps).filter (isCross e)).length ≤ 2 := by
      generalize (edgesR ps).filter (isCross e) = l at nd mem
      match l, nd, mem with
      | [], _, _ => simp
      | [_], _, _ => simp
      | [_, _], _, _ => simp
      | a :: b :: c :: r, nd, mem =>
        exfalso
        obtain ⟨a1, a2⟩ := mem a (by simp)
        obtain ⟨b1, b2⟩ := mem b (by simp)
        obtain ⟨c1, c2⟩ := mem c (by simp)
        simp only [List.nodup_cons, List.mem_cons, not_or] at nd
        have nab := cross_two h h3 a1 b1 nd.1.1 a2 b2
        have nac := cross_two h h3 a1 c1 nd.1.2.1 a2 c2
        have nbc := cross_two h h3 b1 c1 nd.2.1.1 b2 c2
        have := cut_two h h3 he (cut_mem.mpr (.inr ⟨a, a1, a2, rfl⟩)) (cut_mem.mpr (.inr ⟨b, b1, b2, rfl⟩)) (cut_mem.mpr (.inr ⟨c, c1, c2, rfl⟩)) (cross_room a2) (cross_room b2) nab (fun z => nac z.symm) (fun z => nbc z.symm)
        rw [cross_room c2] at this
        grind
    by_cases c : (edgesR ps).filter (isCross e) = []
    · rw [c]
      simp only [List.length_nil]
      omega
    · obtain ⟨x, hx⟩ := List.exists_mem_of_ne_nil _ c
      obtain ⟨x1, x2⟩ := mem x hx
      have neg : ∃ z ∈ ps, ¬ 0 ≤ roomR e z := by
        obtain ⟨m1, m2⟩ := edges_mem x1
        rcases mulneg x2 with z | z
        · exact ⟨_, m1, by grind⟩
        · exact ⟨_, m2, by grind⟩
      have lt : (ps.filter (fun z => decide (0 ≤ roomR e z))).length < ps.length := by
        rw [List.length_filter_lt_length_iff_exists]
        obtain ⟨z, hz, nz⟩ := neg
        exact ⟨z, hz, by simpa using nz⟩
      omega
structure LinB (L : Nat) (A B C : Int) : Prop where
  a : A.natAbs < 2 ^ L
  b : B.natAbs < 2 ^ L
  c : C.natAbs < 2 ^ L
def OnI (A B C : Int) (p : Ray) : Prop := (A : Rat) * p.1 + (B : Rat) * p.2 + (C : Rat) = 0
structure OnL (L : Nat) (p q : Ray) : Prop where
  ex : ∃ A B C : Int, LinB L A B C ∧ (A ≠ 0 ∨ B ≠ 0) ∧ OnI A B C p ∧ OnI A B C q
structure Two (L : Nat) (p : Ray) : Prop where
  ex : ∃ A B C A' B' C' : Int, LinB L A B C ∧ LinB L A' B' C' ∧ A * B' - A' * B ≠ 0 ∧ OnI A B C p ∧ OnI A' B' C' p
structure EdB (L : Nat) (e : Edg) : Prop where
  ex : ∃ (A B C : Int) (k : Rat), LinB L A B C ∧ k ≠ 0 ∧ e.1 = k * A ∧ e.2.1 = k * B ∧ e.2.2 = k * C
theorem Two.self {L : Nat} {p : Ray} (h : Two L p) : OnL L p p := by
  obtain ⟨A, B, C, A', B', C', h1, h2, d, o1, o2⟩ := h.ex
  refine ⟨A, B, C, h1, ?_, o1, o1⟩
  by_cases a : A = 0
  · by_cases b : B = 0
    · exfalso; apply d; rw [a, b]; simp
    · exact .inr b
  · exact .inl a
theorem OnL.swap {L : Nat} {p q : Ray} (h : OnL L p q) : OnL L q p := by
  obtain ⟨A, B, C, h1, h2, o1, o2⟩ := h.ex
  exact ⟨A, B, C, h1, h2, o2, o1⟩
theorem on_mix {A B C : Int} {p q : Ray} (t : Rat) (hp : OnI A B C p) (hq : OnI A B C q) : OnI A B C (mixR t p q) := by
  unfold OnI mixR at *
  dsimp only
  grind
theorem EdB.on {L : Nat} {e : Edg} (h : EdB L e) : ∃ A B C : Int, LinB L A B C ∧ ((e.1 ≠ 0 ∨ e.2.1 ≠ 0) → (A ≠ 0 ∨ B ≠ 0)) ∧ (∃ k : Rat, k ≠ 0 ∧ ∀ p : Ray, roomR e p = k * ((A : Rat) * p.1 + (B : Rat) * p.2 + (C : Rat))) := by
  obtain ⟨A, B, C, k, h1, k0, e1, e2, e3⟩ := h.ex
  refine ⟨A, B, C, h1, ?_, k, k0, fun p => ?_⟩
  · rintro (n | n)
    · exact .inl fun z => n (by rw [e1, z]; grind)
    · exact .inr fun z => n (by rw [e2, z]; grind)
  · unfold roomR
    rw [e1, e2, e3]
    grind
theorem two_cross {L : Nat} {e : Edg} {p q : Ray} (hl : OnL L p q) (hb : EdB L e) (h : roomR e p * roomR e q < 0) : Two L (crossP e p q) := by
  obtain ⟨A, B, C, h1, n1, o1, o2⟩ := hl.ex
  obtain ⟨A', B', C', h2, _, k, k0, hk⟩ := hb.on
  have rc := cross_room h
  refine ⟨A, B, C, A', B', C', h1, h2, fun d => ?_, on_mix _ o1 o2, ?_⟩
  · have ne : roomR e p ≠ roomR e q := by rcases mulneg h with z | z <;> grind
    apply ne
    rw [hk p, hk q]
    have d' : (A : Rat) * B' = (A' : Rat) * B := by
      have : A * B' = A' * B := by omega
      have := congrArg (fun z : Int => (z : Rat)) this
      simpa only [Rat.intCast_mul] using this
    unfold OnI at o1 o2
    have g : (A' : Rat) * (p.1 - q.1) + (B' : Rat) * (p.2 - q.2) = 0 := by
      rcases n1 with n | n
      · have n : (A : Rat) ≠ 0 := fun z => n (by have := Rat.intCast_eq_zero_iff.mp z; exact this)
        have : (A : Rat) * ((A' : Rat) * (p.1 - q.1) + (B' : Rat) * (p.2 - q.2)) = 0 := by grind
        rcases mulz this with z | z
        · exact absurd z n
        · exact z
      · have n : (B : Rat) ≠ 0 := fun z => n (by have := Rat.intCast_eq_zero_iff.mp z; exact this)
        have : (B : Rat) * ((A' : Rat) * (p.1 - q.1) + (B' : Rat) * (p.2 - q.2)) = 0 := by grind
        rcases mulz this with z | z
        · exact absurd z n
        · exact z
    congr 1
    grind
  · rw [hk] at rc
    rcases mulz rc with z | z
    · exact absurd z k0
    · exact z
theorem on_edge {L : Nat} {e : Edg} {s t : Ray} (hb : EdB L e) (he : e.1 ≠ 0 ∨ e.2.1 ≠ 0) (rs : roomR e s = 0) (rt : roomR e t = 0) : OnL L s t := by
  obtain ⟨A, B, C, h2, n, k, k0, hk⟩ := hb.on
  have f : ∀ z : Ray, roomR e z = 0 → OnI A B C z := fun z rz => by
    rw [hk] at rz
    rcases mulz rz with z | z
    · exact absurd z k0
    · exact z
  exact ⟨A, B, C, h2, n he, f s rs, f t rt⟩
structure PolB (L : Nat) (ps : List Ray) : Prop where
  two : ∀ p ∈ ps, Two L p
  on : ∀ x ∈ edgesR ps, OnL L x.1 x.2
theorem OnL.mixL {L : Nat} {p q s t : Ray} (h : OnL L p q) (hs : s = p ∨ s = q ∨ ∃ c, s = mixR c p q) (ht : t = p ∨ t = q ∨ ∃ c, t = mixR c p q) : OnL L s t := by
  obtain ⟨A, B, C, h1, n1, o1, o2⟩ := h.ex
  refine ⟨A, B, C, h1, n1, ?_, ?_⟩
  · rcases hs with rfl | rfl | ⟨c, rfl⟩
    · exact o1
    · exact o2
    · exact on_mix _ o1 o2
  · rcases ht with rfl | rfl | ⟨c, rfl⟩
    · exact o1
    · exact o2
    · exact on_mix _ o1 o2
theorem cutN_bits {L : Nat} {e : Edg} {ps : List Ray} (h : PolB L ps) (hb : EdB L e) (he : e.1 ≠ 0 ∨ e.2.1 ≠ 0) : PolB L (cutN e ps) := by
  refine ⟨fun p hp => ?_, fun y hy => ?_⟩
  · rcases cut_mem.mp hp with ⟨h1, _⟩ | ⟨x, hx, hc, rfl⟩
    · exact h.two p h1
    · exact two_cross (h.on x hx) hb hc
  · obtain ⟨s, t⟩ := y
    have ny := cut_edges hy
    dsimp only at ny ⊢
    cases ny with
    | old p q k hpq k0 hk hs ht hc =>
      refine (h.on _ hpq).mixL ?_ ?_
      · rcases hs with rfl | ⟨rfl, _⟩
        · exact .inl rfl
        · exact .inr (.inr ⟨_, rfl⟩)
      · rcases ht with rfl | ⟨rfl, _⟩
        · exact .inr (.inl rfl)
        · exact .inr (.inr ⟨_, rfl⟩)
    | cut p q k rs rt hpq rq k0 hk => exact on_edge hb he rs rt
theorem PolB.nil (L : Nat) : PolB L [] := by
  refine ⟨fun p hp => ?_, fun x hx => ?_⟩
  · cases hp
  · cases hx
theorem PolB.one {L : Nat} {p : Ray} (h : Two L p) : PolB L [p] := by
  refine ⟨fun q hq => ?_, fun x hx => ?_⟩
  · rw [List.mem_singleton.mp hq]; exact h
  · have hx : x ∈ [(p, p)] := hx
    rw [List.mem_singleton.mp hx]; exact h.self
theorem PolB.pair {L : Nat} {p q : Ray} (h1 : Two L p) (h2 : Two L q) (h : OnL L p q) : PolB L [p, q] := by
  refine ⟨fun r hr => ?_, fun x hx => ?_⟩
  · simp only [List.mem_cons, List.not_mem_nil, or_false] at hr
    rcases hr with rfl | rfl <;> assumption
  · have hx : x ∈ [(q, p), (p, q)] := hx
    simp only [List.mem_cons, List.not_mem_nil, or_false] at hx
    rcases hx with rfl | rfl
    · exact h.swap
    · exact h
theorem cutS_bits {L : Nat} {e : Edg} {ps : List Ray} (h : ES ps) (hp : PolB L ps) (hb : EdB L e) (he : e.1 ≠ 0 ∨ e.2.1 ≠ 0) : PolB L (cutS e ps) := by
  rcases len_cases ps with rfl | ⟨p, rfl⟩ | ⟨p, q, rfl⟩ | h3
  · exact PolB.nil L
  · rw [one_eq]
    split
    · exact hp
    · exact PolB.nil L
  · have o1 : OnL L p q := hp.on (p, q) (show (p, q) ∈ [(q, p), (p, q)] by simp)
    have tp := hp.two p (by simp)
    have tq := hp.two q (by simp)
    rw [cut_two_eq]
    by_cases c : roomR e p * roomR e q < 0
    · rw [if_pos c]
      have tx := two_cross o1 hb c
      split
      · exact PolB.pair tx tp (o1.mixL (.inr (.inr ⟨_, rfl⟩)) (.inl rfl))
      · exact PolB.pair tx tq (o1.mixL (.inr (.inr ⟨_, rfl⟩)) (.inr (.inl rfl)))
    · rw [if_neg c]
      split <;> split
      · exact hp
      · exact PolB.one tp
      · exact PolB.one tq
      · exact PolB.nil L
  · rw [cutS_three h h3]
    exact cutN_bits hp hb he
theorem Two.rb {L : Nat} {p : Ray} (h : Two L p) : Rb (2 * L + 1) p.1 p.2 := by
  obtain ⟨A, B, C, A', B', C', h1, h2, d, o1, o2⟩ := h.ex
  have bits : ∀ {x y z w : Int}, x.natAbs < 2 ^ L → y.natAbs < 2 ^ L → z.natAbs < 2 ^ L → w.natAbs < 2 ^ L → (x * y - z * w).natAbs < 2 ^ (2 * L + 1) := fun hx hy hz hw => by
    have := abs_sub (abs_mul hx hy) (abs_mul hz hw)
    rw [← Nat.two_mul] at this
    exact this
  have cd : ∀ x y z w : Int, ((x * y - z * w : Int) : Rat) = (x : Rat) * y - (z : Rat) * w := fun x y z w => by rw [Rat.intCast_sub, Rat.intCast_mul, Rat.intCast_mul]
  unfold OnI at o1 o2
  have e1 : p.1 * ((A * B' - A' * B : Int) : Rat) = ((B * C' - B' * C : Int) : Rat) := by rw [cd, cd]; grind
  have e2 : p.2 * ((A * B' - A' * B : Int) : Rat) = ((A' * C - A * C' : Int) : Rat) := by rw [cd, cd]; grind
  have dR : ((A * B' - A' * B : Int) : Rat) ≠ 0 := fun z => d (Rat.intCast_eq_zero_iff.mp z)
  have fin : ∀ (D Y U : Int), D ≠ 0 → (D : Rat) ≠ 0 → D.natAbs < 2 ^ (2 * L + 1) → Y.natAbs < 2 ^ (2 * L + 1) → U.natAbs < 2 ^ (2 * L + 1) → p.1 * (D : Rat) = (Y : Rat) → p.2 * (D : Rat) = (U : Rat) → Rb (2 * L + 1) p.1 p.2 := fun D Y U d0 d1 hD hY hU q1 q2 => by
    by_cases s : 0 < D
    · refine ⟨Y, U, D.natAbs, by omega, hD, hY, hU, ?_, ?_⟩
      · rw [show ((D.natAbs : Nat) : Int) = D by omega, Rat.divInt_eq_div]; grind
      · rw [show ((D.natAbs : Nat) : Int) = D by omega, Rat.divInt_eq_div]; grind
    · have en : ((D.natAbs : Nat) : Int) = -D := by omega
      refine ⟨-Y, -U, D.natAbs, by omega, hD, by rw [Int.natAbs_neg]; exact hY, by rw [Int.natAbs_neg]; exact hU, ?_, ?_⟩
      · rw [en, Rat.divInt_eq_div, Rat.intCast_neg, Rat.intCast_neg]; grind
      · rw [en, Rat.divInt_eq_div, Rat.intCast_neg, Rat.intCast_neg]; grind
  exact fin _ _ _ d dR (bits h1.a h2.b h2.a h1.b) (bits h1.b h2.c h2.b h1.c) (bits h2.a h1.c h1.a h2.c) e1 e2
end Op
namespace Op
open Fr
theorem pairsF_len (l : Ray) : ∀ ps : List Ray, (pairsF l ps).length = ps.length
  | [] => rfl
  | p :: r => by show (pairsF p r).length + 1 = r.length + 1; rw [pairsF_len p r]
theorem edges_len (ps : List Ray) : (edgesR ps).length = ps.length := by
  unfold edgesR
  cases h : ps.getLast? with
  | none => rw [List.getLast?_eq_none_iff.mp h]; rfl
  | some l => exact pairsF_len l ps
theorem pairsF_get0 (l : Ray) : ∀ (ps : List Ray) (i : Nat), i < ps.length → (pairsF l ps)[i]? = some (if i = 0 then l else atR ps (i - 1), atR ps i)
  | p :: r, 0, _ => rfl
  | p :: r, i + 1, h => by
    show (pairsF p r)[i]? = _
    rw [pairsF_get0 p r i (by simpa using h)]
    cases i with
    | zero => rfl
    | succ j => rfl
theorem edges_at {ps : List Ray} {i : Nat} (h : i < ps.length) : (edgesR ps)[i]? = some (prevR ps i, atR ps i) := by
  unfold edgesR
  cases hl : ps.getLast? with
  | none => rw [List.getLast?_eq_none_iff.mp hl] at h; exact absurd h (by simp)
  | some l =>
    show (pairsF l ps)[i]? = _
    rw [pairsF_get0 l ps i h]
    unfold prevR
    by_cases e : i = 0
    · rw [if_pos e, if_pos e]
      have : atR ps (ps.length - 1) = l := by
        unfold atR
        rw [List.getD_eq_getElem?_getD, ← List.getLast?_eq_getElem?, hl]
        rfl
      rw [this]
    · rw [if_neg e, if_neg e]
theorem edges_iff {ps : List Ray} {x : Ray × Ray} : x ∈ edgesR ps ↔ ∃ i, i < ps.length ∧ x = (prevR ps i, atR ps i) := by
  constructor
  · intro h
    obtain ⟨i, hi⟩ := List.mem_iff_getElem?.mp h
    have hl : i < ps.length := by
      rw [← edges_len]
      exact (List.getElem?_eq_some_iff.mp hi).1
    rw [edges_at hl] at hi
    exact ⟨i, hl, (Option.some.inj hi).symm⟩
  · rintro ⟨i, hi, rfl⟩
    exact List.mem_of_getElem? (edges_at hi)
theorem rot_ind {P : List Ray → Prop} (h : ∀ x r, P (x :: r) → P (r ++ [x])) : ∀ a b : List Ray, P (a ++ b) → P (b ++ a)
  | [], b, p => by rw [List.append_nil]; exact p
  | x :: a, b, p => by
    have p1 := h x (a ++ b) p
    rw [List.append_assoc] at p1
    have p2 := rot_ind h a (b ++ [x]) p1
    rw [List.append_assoc] at p2
    exact p2
theorem rot_edges {x : Ray} {r : List Ray} {y : Ray × Ray} : y ∈ edgesR (r ++ [x]) ↔ y ∈ edgesR (x :: r) := by
  have e1 : edgesR (r ++ [x]) = pairsF x (r ++ [x]) := by
    unfold edgesR
    rw [List.getLast?_append]
    rfl
  have e2 : edgesR (x :: r) = ((x :: r).getLast (by simp), x) :: pairsF x r := by
    unfold edgesR
    rw [List.getLast?_eq_some_getLast (by simp)]
    rfl
  rw [e1, e2, pairsF_snoc, List.mem_append, List.mem_cons, List.mem_cons]
  simp only [List.not_mem_nil, or_false]
  exact Or.comm
theorem ES.rot {x : Ray} {r : List Ray} (h : ES (x :: r)) : ES (r ++ [x]) := by
  refine ⟨?_, fun y hy z hz n1 n2 => ?_⟩
  · have nd := h.nd
    rw [List.nodup_cons] at nd
    rw [List.nodup_append]
    refine ⟨nd.2, by simp, fun a ha b hb e => ?_⟩
    rw [List.mem_singleton.mp hb] at e
    exact nd.1 (e ▸ ha)
  · refine h.st y (rot_edges.mp hy) z ?_ n1 n2
    rw [List.mem_append, List.mem_singleton] at hz
    rw [List.mem_cons]
    exact hz.symm
theorem PolB.rot {L : Nat} {x : Ray} {r : List Ray} (h : PolB L (x :: r)) : PolB L (r ++ [x]) := by
  refine ⟨fun p hp => h.two p ?_, fun y hy => h.on y (rot_edges.mp hy)⟩
  rw [List.mem_append, List.mem_singleton] at hp
  rw [List.mem_cons]
  exact hp.symm
theorem InP.rot {x : Ray} {r : List Ray} (z : Ray) : InP (r ++ [x]) z ↔ InP (x :: r) z := by
  match r with
  | [] => exact Iff.rfl
  | [p] => exact seg_swap
  | p :: q :: s =>
    rw [InP.three (ps := p :: q :: s ++ [x]) (by simp), InP.three (ps := x :: p :: q :: s) (by simp)]
    constructor
    · intro h y hy; exact h y (rot_edges.mpr hy)
    · intro h y hy; exact h y (rot_edges.mp hy)
theorem bef_iff {a b : Ray} : befR a b = true ↔ a.1 < b.1 ∨ (a.1 = b.1 ∧ a.2 < b.2) := by
  unfold befR
  split
  · rename_i h
    rw [decide_eq_true_iff]
    constructor
    · intro c; exact .inr ⟨h, c⟩
    · rintro (c | c)
      · grind
      · exact c.2
  · rename_i h
    rw [decide_eq_true_iff]
    constructor
    · intro c; exact .inl c
    · rintro (c | c)
      · exact c
      · exact absurd c.1 h
theorem bef_trans {a b c : Ray} (h : befR a b = true) (k : befR b c = true) : befR a c = true := by
  rw [bef_iff] at *
  grind
theorem bef_irr (a : Ray) : befR a a = false := by
  cases h : befR a a with
  | false => rfl
  | true => rw [bef_iff] at h; grind
theorem bef_tot {a b : Ray} (n : a ≠ b) (h : befR b a = false) : befR a b = true := by
  have h : ¬ befR b a = true := by rw [h]; decide
  rw [bef_iff] at *
  rcases (show a.1 < b.1 ∨ a.1 = b.1 ∨ b.1 < a.1 by grind) with c | c | c
  · exact .inl c
  · rcases (show a.2 < b.2 ∨ a.2 = b.2 ∨ b.2 < a.2 by grind) with d | d | d
    · exact .inr ⟨c, d⟩
    · exact absurd (Prod.ext c d) n
    · exact absurd (.inr ⟨c.symm, d⟩) h
  · exact absurd (.inl c) h
def leastI (cs : List Ray) : Nat → Nat
  | 0 => 0
  | i + 1 => if befR (atR cs i) (atR cs (leastI cs i)) = true then i else leastI cs i
def rotL (cs : List Ray) : List Ray := cs.drop (leastI cs cs.length) ++ cs.take (leastI cs cs.length)
theorem least_lt (cs : List Ray) : ∀ m, 0 < m → leastI cs m < m
  | 0, h => absurd h (by decide)
  | m + 1, _ => by
    rw [leastI]
    split
    · omega
    · cases m with
      | zero => show 0 < 1; decide
      | succ k => have := least_lt cs (k + 1) (by omega); omega
theorem least_ok (cs : List Ray) : ∀ m i, i < m → befR (atR cs i) (atR cs (leastI cs m)) = false
  | 0, i, h => absurd h (by omega)
  | m + 1, i, h => by
    rw [leastI]
    by_cases c : befR (atR cs m) (atR cs (leastI cs m)) = true
    · rw [if_pos c]
      by_cases e : i = m
      · rw [e]; exact bef_irr _
      · have ih := least_ok cs m i (by omega)
        cases hb : befR (atR cs i) (atR cs m) with
        | false => rfl
        | true => rw [bef_trans hb c] at ih; cases ih
    · rw [if_neg c]
      by_cases e : i = m
      · rw [e]; simpa using c
      · exact least_ok cs m i (by omega)
def Lf (cs : List Ray) : Prop := ∀ c ∈ cs, befR c (atR cs 0) = false
theorem rot_eq (cs : List Ray) : ∃ a b, cs = a ++ b ∧ rotL cs = b ++ a := ⟨cs.take (leastI cs cs.length), cs.drop (leastI cs cs.length), (List.take_append_drop _ _).symm, rfl⟩
theorem rot_mem {cs : List Ray} {c : Ray} : c ∈ rotL cs ↔ c ∈ cs := by
  obtain ⟨a, b, e1, e2⟩ := rot_eq cs
  rw [e2, e1, List.mem_append, List.mem_append]
  exact Or.comm
theorem rot_len (cs : List Ray) : (rotL cs).length = cs.length := by
  obtain ⟨a, b, e1, e2⟩ := rot_eq cs
  rw [e2, e1, List.length_append, List.length_append]
  omega
theorem rotL_ES {cs : List Ray} (h : ES cs) : ES (rotL cs) := by
  obtain ⟨a, b, e1, e2⟩ := rot_eq cs
  rw [e2]
  exact rot_ind (P := ES) (fun x r p => p.rot) a b (e1 ▸ h)
theorem rotL_bits {L : Nat} {cs : List Ray} (h : PolB L cs) : PolB L (rotL cs) := by
  obtain ⟨a, b, e1, e2⟩ := rot_eq cs
  rw [e2]
  exact rot_ind (P := PolB L) (fun x r p => p.rot) a b (e1 ▸ h)
theorem rotL_in (cs : List Ray) (z : Ray) : InP (rotL cs) z ↔ InP cs z := by
  obtain ⟨a, b, e1, e2⟩ := rot_eq cs
  rw [e2]
  refine rot_ind (P := fun l => InP l z ↔ InP cs z) (fun x r p => (InP.rot z).trans p) a b ?_
  rw [← e1]
theorem rotL_lf (cs : List Ray) : Lf (rotL cs) := by
  intro c hc
  have hc := rot_mem.mp hc
  have hl : 0 < cs.length := List.length_pos_of_mem hc
  have lt := least_lt cs cs.length hl
  have e : atR (rotL cs) 0 = atR cs (leastI cs cs.length) := by
    unfold rotL atR
    rw [List.getD_eq_getElem?_getD, List.getD_eq_getElem?_getD, List.getElem?_append_left (by rw [List.length_drop]; omega), List.getElem?_drop, Nat.add_zero]
  rw [e]
  obtain ⟨i, hi, rfl⟩ := List.mem_iff_getElem.mp hc
  have := least_ok cs cs.length i hi
  rw [show atR cs i = cs[i] by unfold atR; rw [List.getD_eq_getElem?_getD, List.getElem?_eq_getElem hi]; rfl] at this
  exact this
theorem seg_bef {p q x : Ray} (h : befR p q = true) : (0 ≤ turnR q p x ∧ 0 ≤ turnR p q x ∧ befR x p = false ∧ befR q x = false) ↔ ∃ t, 0 ≤ t ∧ t ≤ 1 ∧ x = mixR t p q := by
  constructor
  · rintro ⟨h1, h2, h3, h4⟩
    have h3 : ¬ befR x p = true := by rw [h3]; decide
    have h4 : ¬ befR q x = true := by rw [h4]; decide
    rw [bef_iff] at h h3 h4
    have tz : turnR p q x = 0 := by unfold turnR at *; grind
    have n : p ≠ q := by rintro rfl; rcases h with c | c <;> grind
    obtain ⟨t, rfl⟩ := line_par n tz
    refine ⟨t, ?_, ?_, rfl⟩
    · rcases (show 0 ≤ t ∨ t < 0 by grind) with c | c
      · exact c
      · exfalso
        apply h3
        unfold mixR
        dsimp only
        rcases h with d | d
        · left
          have := Rat.mul_pos (show 0 < -t by grind) (show 0 < q.1 - p.1 by grind)
          grind
        · right
          have := Rat.mul_pos (show 0 < -t by grind) (show 0 < q.2 - p.2 by grind)
          have e := d.1
          constructor
          · rw [← e]; grind
          · grind
    · rcases (show t ≤ 1 ∨ 1 < t by grind) with c | c
      · exact c
      · exfalso
        apply h4
        unfold mixR
        dsimp only
        rcases h with d | d
        · left
          have := Rat.mul_pos (show 0 < t - 1 by grind) (show 0 < q.1 - p.1 by grind)
          grind
        · right
          have := Rat.mul_pos (show 0 < t - 1 by grind) (show 0 < q.2 - p.2 by grind)
          have e := d.1
          constructor
          · rw [← e]; grind
          · grind
  · rintro ⟨t, t0, t1, rfl⟩
    have z1 : turnR p q (mixR t p q) = 0 := turn_on p q t
    have z2 : turnR q p (mixR t p q) = 0 := by rw [turn_mix, turn_pqq, turn_pqp]; grind
    refine ⟨by rw [z2]; grind, by rw [z1]; grind, ?_, ?_⟩
    · cases hb : befR (mixR t p q) p with
      | false => rfl
      | true =>
        exfalso
        rw [bef_iff] at hb h
        unfold mixR at hb
        dsimp only at hb
        rcases h with d | d
        · have := Rat.mul_nonneg t0 (show 0 ≤ q.1 - p.1 by grind)
          rcases hb with b | b
          · grind
          · rcases (show t = 0 ∨ 0 < t by grind) with c | c
            · subst c; grind
            · have := Rat.mul_pos c (show 0 < q.1 - p.1 by grind); grind
        · have := Rat.mul_nonneg t0 (show 0 ≤ q.2 - p.2 by grind)
          have e := d.1
          rcases hb with b | b
          · rw [← e] at b; grind
          · grind
    · cases hb : befR q (mixR t p q) with
      | false => rfl
      | true =>
        exfalso
        rw [bef_iff] at hb h
        unfold mixR at hb
        dsimp only at hb
        rcases h with d | d
        · have := Rat.mul_nonneg (show 0 ≤ 1 - t by grind) (show 0 ≤ q.1 - p.1 by grind)
          rcases hb with b | b
          · grind
          · rcases (show t = 1 ∨ 0 < 1 - t by grind) with c | c
            · subst c; grind
            · have := Rat.mul_pos c (show 0 < q.1 - p.1 by grind); grind
        · have := Rat.mul_nonneg (show 0 ≤ 1 - t by grind) (show 0 ≤ q.2 - p.2 by grind)
          have e := d.1
          rcases hb with b | b
          · rw [← e] at b; grind
          · grind
theorem left_edges (cs : List Ray) (r : Ray) : leftTo cs r cs.length = true ↔ ∀ y ∈ edgesR cs, 0 ≤ turnR y.1 y.2 r := by
  rw [left_iff]
  constructor
  · intro h y hy
    obtain ⟨i, hi, rfl⟩ := edges_iff.mp hy
    have := h i hi
    dsimp only
    grind
  · intro h i hi
    have := h _ (edges_iff.mpr ⟨i, hi, rfl⟩)
    dsimp only at this
    grind
theorem within_in {cs : List Ray} (h : ES cs) (lf : Lf cs) (r : Ray) : withinR cs r = true ↔ InP cs r := by
  rcases len_cases cs with rfl | ⟨p, rfl⟩ | ⟨p, q, rfl⟩ | h3
  · show (false = true) ↔ False
    simp
  · show ((decide (p = r) || false) = true) ↔ r = p
    rw [Bool.or_false, decide_eq_true_iff]
    exact eq_comm
  · have n : p ≠ q := by have := h.nd; simpa using this
    have b : befR p q = true := bef_tot n (lf q (by simp))
    show (leftTo [p, q] r 2 && (!befR r p && !befR q r)) = true ↔ ∃ t, 0 ≤ t ∧ t ≤ 1 ∧ r = mixR t p q
    rw [← seg_bef b, Bool.and_eq_true, Bool.and_eq_true]
    have e := left_edges [p, q] r
    rw [show [p, q].length = 2 from rfl] at e
    rw [e]
    have m : ∀ y, y ∈ edgesR [p, q] ↔ y = (q, p) ∨ y = (p, q) := fun y => by
      show y ∈ [(q, p), (p, q)] ↔ _
      simp
    constructor
    · rintro ⟨h1, h2, h3⟩
      exact ⟨h1 (q, p) ((m _).mpr (.inl rfl)), h1 (p, q) ((m _).mpr (.inr rfl)), by simpa using h2, by simpa using h3⟩
    · rintro ⟨h1, h2, h3, h4⟩
      refine ⟨fun y hy => ?_, by simpa using h3, by simpa using h4⟩
      rcases (m y).mp hy with rfl | rfl
      · exact h1
      · exact h2
  · unfold withinR
    rw [if_neg (by omega), if_pos (by omega), Bool.and_true, left_edges, InP.three h3]
end Op
namespace Op
open Fr
structure Box where
  a : Rat
  b : Rat
  c : Rat
  d : Rat
def Box.four (x : Box) : List Ray := [(x.a, x.c), (x.b, x.c), (x.b, x.d), (x.a, x.d)]
def dedup : List Ray → List Ray → List Ray
  | [], acc => acc
  | c :: cs, acc => dedup cs (if c ∈ acc then acc else acc ++ [c])
def boxC (x : Box) : List Ray := dedup x.four []
structure Box.ok (x : Box) : Prop where
  h : x.a ≤ x.b
  s : x.c ≤ x.d
def Box.has (x : Box) (r : Ray) : Prop := x.a ≤ r.1 ∧ r.1 ≤ x.b ∧ x.c ≤ r.2 ∧ r.2 ≤ x.d
theorem ray_eq {a b c d : Rat} : ((a, b) : Ray) = (c, d) ↔ a = c ∧ b = d := Prod.mk.injEq a b c d ▸ Iff.rfl
theorem box4 {x : Box} (h1 : x.a < x.b) (h2 : x.c < x.d) : boxC x = [(x.a, x.c), (x.b, x.c), (x.b, x.d), (x.a, x.d)] := by
  have n1 : x.b ≠ x.a := by grind
  have n2 : x.d ≠ x.c := by grind
  have n3 : x.a ≠ x.b := by grind
  have n4 : x.c ≠ x.d := by grind
  unfold boxC Box.four
  simp [dedup, ray_eq, n1, n2, n3, n4]
theorem boxV {x : Box} (h1 : x.a = x.b) (h2 : x.c < x.d) : boxC x = [(x.a, x.c), (x.a, x.d)] := by
  have n2 : x.d ≠ x.c := by grind
  have n4 : x.c ≠ x.d := by grind
  unfold boxC Box.four
  simp [dedup, ray_eq, ← h1, n2, n4]
theorem boxH {x : Box} (h1 : x.a < x.b) (h2 : x.c = x.d) : boxC x = [(x.a, x.c), (x.b, x.c)] := by
  have n2 : x.b ≠ x.a := by grind
  have n4 : x.a ≠ x.b := by grind
  unfold boxC Box.four
  simp [dedup, ray_eq, ← h2, n2, n4]
theorem box1 {x : Box} (h1 : x.a = x.b) (h2 : x.c = x.d) : boxC x = [(x.a, x.c)] := by
  unfold boxC Box.four
  simp [dedup, ray_eq, ← h1, ← h2]
theorem Box.cases {x : Box} (h : x.ok) : (x.a < x.b ∧ x.c < x.d) ∨ (x.a = x.b ∧ x.c < x.d) ∨ (x.a < x.b ∧ x.c = x.d) ∨ (x.a = x.b ∧ x.c = x.d) := by
  have := h.h
  have := h.s
  rcases (show x.a < x.b ∨ x.a = x.b by grind) with a | a <;> rcases (show x.c < x.d ∨ x.c = x.d by grind) with b | b
  · exact .inl ⟨a, b⟩
  · exact .inr (.inr (.inl ⟨a, b⟩))
  · exact .inr (.inl ⟨a, b⟩)
  · exact .inr (.inr (.inr ⟨a, b⟩))
theorem nn_of {k z : Rat} (hk : 0 < k) : 0 ≤ k * z ↔ 0 ≤ z := by
  constructor
  · intro h
    rcases (show 0 ≤ z ∨ z < 0 by grind) with c | c
    · exact c
    · have := Rat.mul_pos hk (show 0 < -z by grind)
      grind
  · intro h; exact Rat.mul_nonneg (by grind) h
theorem box_ES {x : Box} (h : x.ok) : ES (boxC x) := by
  rcases Box.cases h with ⟨h1, h2⟩ | ⟨h1, h2⟩ | ⟨h1, h2⟩ | ⟨h1, h2⟩
  · rw [box4 h1 h2]
    have n1 : x.b ≠ x.a := by grind
    have n2 : x.d ≠ x.c := by grind
    have n3 : x.a ≠ x.b := by grind
    have n4 : x.c ≠ x.d := by grind
    have wp := Rat.mul_pos (show 0 < x.b - x.a by grind) (show 0 < x.d - x.c by grind)
    refine ⟨by simp [ray_eq, n1, n2, n3, n4], fun y hy z hz m1 m2 => ?_⟩
    have hy : y ∈ [((x.a, x.d), (x.a, x.c)), ((x.a, x.c), (x.b, x.c)), ((x.b, x.c), (x.b, x.d)), ((x.b, x.d), (x.a, x.d))] := hy
    simp only [List.mem_cons, List.not_mem_nil, or_false] at hy hz
    unfold turnR
    rcases hy with rfl | rfl | rfl | rfl <;> rcases hz with rfl | rfl | rfl | rfl <;> dsimp only at m1 m2 ⊢ <;> first | exact absurd rfl m1 | exact absurd rfl m2 | grind
  · rw [boxV h1 h2]; exact ES.two (by rw [Ne, ray_eq]; grind)
  · rw [boxH h1 h2]; exact ES.two (by rw [Ne, ray_eq]; grind)
  · rw [box1 h1 h2]; exact ES.one _
theorem mix_eq {t : Rat} {p q r : Ray} : r = mixR t p q ↔ r.1 = p.1 + t * (q.1 - p.1) ∧ r.2 = p.2 + t * (q.2 - p.2) := by
  unfold mixR
  rw [Prod.ext_iff]
theorem box_in {x : Box} (h : x.ok) (r : Ray) : InP (boxC x) r ↔ x.has r := by
  unfold Box.has
  rcases Box.cases h with ⟨h1, h2⟩ | ⟨h1, h2⟩ | ⟨h1, h2⟩ | ⟨h1, h2⟩
  · rw [box4 h1 h2]
    have hm : ∀ y, y ∈ edgesR [(x.a, x.c), (x.b, x.c), (x.b, x.d), (x.a, x.d)] ↔ (y = ((x.a, x.d), (x.a, x.c)) ∨ y = ((x.a, x.c), (x.b, x.c)) ∨ y = ((x.b, x.c), (x.b, x.d)) ∨ y = ((x.b, x.d), (x.a, x.d))) := fun y => by
      show y ∈ [((x.a, x.d), (x.a, x.c)), ((x.a, x.c), (x.b, x.c)), ((x.b, x.c), (x.b, x.d)), ((x.b, x.d), (x.a, x.d))] ↔ _
      simp
    rw [InP.three (by simp)]
    have hw : 0 < x.b - x.a := by grind
    have hs : 0 < x.d - x.c := by grind
    have t1 : turnR (x.a, x.d) (x.a, x.c) r = (x.d - x.c) * (r.1 - x.a) := by unfold turnR; grind
    have t2 : turnR (x.a, x.c) (x.b, x.c) r = (x.b - x.a) * (r.2 - x.c) := by unfold turnR; grind
    have t3 : turnR (x.b, x.c) (x.b, x.d) r = (x.d - x.c) * (x.b - r.1) := by unfold turnR; grind
    have t4 : turnR (x.b, x.d) (x.a, x.d) r = (x.b - x.a) * (x.d - r.2) := by unfold turnR; grind
    constructor
    · intro g
      have g1 := g _ ((hm _).mpr (.inl rfl))
      have g2 := g _ ((hm _).mpr (.inr (.inl rfl)))
      have g3 := g _ ((hm _).mpr (.inr (.inr (.inl rfl))))
      have g4 := g _ ((hm _).mpr (.inr (.inr (.inr rfl))))
      dsimp only at g1 g2 g3 g4
      rw [t1, nn_of hs] at g1
      rw [t2, nn_of hw] at g2
      rw [t3, nn_of hs] at g3
      rw [t4, nn_of hw] at g4
      grind
    · rintro ⟨g1, g2, g3, g4⟩ y hy
      rcases (hm y).mp hy with rfl | rfl | rfl | rfl <;> dsimp only
      · rw [t1, nn_of hs]; grind
      · rw [t2, nn_of hw]; grind
      · rw [t3, nn_of hs]; grind
      · rw [t4, nn_of hw]; grind
  · rw [boxV h1 h2]
    show (∃ t, 0 ≤ t ∧ t ≤ 1 ∧ r = mixR t (x.a, x.c) (x.a, x.d)) ↔ _
    have hs : 0 < x.d - x.c := by grind
    constructor
    · rintro ⟨t, t0, t1, e⟩
      rw [mix_eq] at e
      dsimp only at e
      have := Rat.mul_nonneg t0 (show 0 ≤ x.d - x.c by grind)
      have := Rat.mul_nonneg (show 0 ≤ 1 - t by grind) (show 0 ≤ x.d - x.c by grind)
      grind
    · rintro ⟨g1, g2, g3, g4⟩
      have e : (r.2 - x.c) / (x.d - x.c) * (x.d - x.c) = r.2 - x.c := divmul hs
      refine ⟨(r.2 - x.c) / (x.d - x.c), ?_, ?_, ?_⟩
      · rw [← nn_of hs]; grind
      · have : 0 ≤ 1 - (r.2 - x.c) / (x.d - x.c) := by rw [← nn_of hs]; grind
        grind
      · rw [mix_eq]; dsimp only; grind
  · rw [boxH h1 h2]
    show (∃ t, 0 ≤ t ∧ t ≤ 1 ∧ r = mixR t (x.a, x.c) (x.b, x.c)) ↔ _
    have hs : 0 < x.b - x.a := by grind
    constructor
    · rintro ⟨t, t0, t1, e⟩
      rw [mix_eq] at e
      dsimp only at e
      have := Rat.mul_nonneg t0 (show 0 ≤ x.b - x.a by grind)
      have := Rat.mul_nonneg (show 0 ≤ 1 - t by grind) (show 0 ≤ x.b - x.a by grind)
      grind
    · rintro ⟨g1, g2, g3, g4⟩
      have e : (r.1 - x.a) / (x.b - x.a) * (x.b - x.a) = r.1 - x.a := divmul hs
      refine ⟨(r.1 - x.a) / (x.b - x.a), ?_, ?_, ?_⟩
      · rw [← nn_of hs]; grind
      · have : 0 ≤ 1 - (r.1 - x.a) / (x.b - x.a) := by rw [← nn_of hs]; grind
        grind
      · rw [mix_eq]; dsimp only; grind
  · rw [box1 h1 h2]
    show r = (x.a, x.c) ↔ _
    rw [Prod.ext_iff]
    dsimp only
    grind
structure Box.bd (n : Nat) (x : Box) : Prop where
  a : Bd n x.a
  b : Bd n x.b
  c : Bd n x.c
  d : Bd n x.d
theorem num_den (q : Rat) : (q.den : Rat) * q = (q.num : Rat) := by
  have h : q = (q.num : Rat) / (q.den : Rat) := by rw [← Rat.intCast_natCast, ← Rat.divInt_eq_div]; exact (Rat.num_divInt_den q).symm
  have d : (q.den : Rat) ≠ 0 := fun z => q.den_nz (by exact_mod_cast z)
  generalize (q.num : Rat) = a at *
  generalize (q.den : Rat) = b at *
  grind
theorem two_of {L : Nat} {p q : Rat} (hp : Bd L p) (hq : Bd L q) (h0 : 0 < L) : Two L (p, q) := by
  have z : (0 : Int).natAbs < 2 ^ L := by show 0 < 2 ^ L; exact Nat.two_pow_pos L
  refine ⟨(p.den : Int), 0, -p.num, 0, (q.den : Int), -q.num, ⟨hp.d, z, by rw [Int.natAbs_neg]; exact hp.n⟩, ⟨z, hq.d, by rw [Int.natAbs_neg]; exact hq.n⟩, ?_, ?_, ?_⟩
  · have h1 := p.den_nz
    have h2 := q.den_nz
    rw [Int.zero_mul, Int.sub_zero]
    intro e
    rcases Int.mul_eq_zero.mp e with e | e <;> omega
  · unfold OnI
    have := num_den p
    simp only [Rat.intCast_natCast, Rat.intCast_neg, Rat.intCast_zero]
    grind
  · unfold OnI
    have := num_den q
    simp only [Rat.intCast_natCast, Rat.intCast_neg, Rat.intCast_zero]
    grind
theorem onl_y {L : Nat} {p u v : Rat} (hp : Bd L p) : OnL L (p, u) (p, v) := by
  have z : (0 : Int).natAbs < 2 ^ L := by show 0 < 2 ^ L; exact Nat.two_pow_pos L
  have := num_den p
  have h1 := p.den_nz
  refine ⟨(p.den : Int), 0, -p.num, ⟨hp.d, z, by rw [Int.natAbs_neg]; exact hp.n⟩, .inl (by omega), ?_, ?_⟩ <;>
  · unfold OnI
    simp only [Rat.intCast_natCast, Rat.intCast_neg, Rat.intCast_zero]
    grind
theorem onl_u {L : Nat} {p u v : Rat} (hp : Bd L p) : OnL L (u, p) (v, p) := by
  have z : (0 : Int).natAbs < 2 ^ L := by show 0 < 2 ^ L; exact Nat.two_pow_pos L
  have := num_den p
  have h1 := p.den_nz
  refine ⟨0, (p.den : Int), -p.num, ⟨z, hp.d, by rw [Int.natAbs_neg]; exact hp.n⟩, .inr (by omega), ?_, ?_⟩ <;>
  · unfold OnI
    simp only [Rat.intCast_natCast, Rat.intCast_neg, Rat.intCast_zero]
    grind
theorem box_bits {L : Nat} {x : Box} (h : x.ok) (b : x.bd L) (h0 : 0 < L) : PolB L (boxC x) := by
  have c1 := two_of b.a b.c h0
  have c2 := two_of b.b b.c h0
  have c3 := two_of b.b b.d h0
  have c4 := two_of b.a b.d h0
  rcases Box.cases h with ⟨h1, h2⟩ | ⟨h1, h2⟩ | ⟨h1, h2⟩ | ⟨h1, h2⟩
  · rw [box4 h1 h2]
    refine ⟨fun p hp => ?_, fun y hy => ?_⟩
    · simp only [List.mem_cons, List.not_mem_nil, or_false] at hp
      rcases hp with rfl | rfl | rfl | rfl <;> assumption
    · have hy : y ∈ [((x.a, x.d), (x.a, x.c)), ((x.a, x.c), (x.b, x.c)), ((x.b, x.c), (x.b, x.d)), ((x.b, x.d), (x.a, x.d))] := hy
      simp only [List.mem_cons, List.not_mem_nil, or_false] at hy
      rcases hy with rfl | rfl | rfl | rfl
      · exact onl_y b.a
      · exact onl_u b.c
      · exact onl_y b.b
      · exact onl_u b.d
  · rw [boxV h1 h2]; exact PolB.pair c1 c4 (onl_y b.a)
  · rw [boxH h1 h2]; exact PolB.pair c1 c2 (onl_u b.c)
  · rw [box1 h1 h2]; exact PolB.one c1
theorem box_len {x : Box} (h : x.ok) : (boxC x).length ≤ 4 := by
  rcases Box.cases h with ⟨h1, h2⟩ | ⟨h1, h2⟩ | ⟨h1, h2⟩ | ⟨h1, h2⟩
  · rw [box4 h1 h2]; show 4 ≤ 4; decide
  · rw [boxV h1 h2]; show 2 ≤ 4; decide
  · rw [boxH h1 h2]; show 2 ≤ 4; decide
  · rw [box1 h1 h2]; show 1 ≤ 4; decide
end Op
namespace Lib
open PySem L2 Fr Op
def edgD (e : Edg) : PyData := .tuple [frD e.1, frD e.2.1, frD e.2.2]
def boxD (x : Box) : PyData := .tuple [frD x.a, frD x.b, frD x.c, frD x.d]
def raysD (cs : List Ray) : PyData := .list (cs.map rayD)
def upE (l : Lim) : Edg := (l.a, l.b, 0 - l.lo)
def dnE (l : Lim) : Edg := (0 - l.a, 0 - l.b, l.hi)
structure LimB (n M : Nat) (l : Lim) : Prop where
  a : Bd n l.a
  b : Bd n l.b
  lo : Bd M l.lo
  hi : Bd M l.hi
  z : l.a = 0 → l.b ≠ 0
structure EdS (n M : Nat) (e : Edg) : Prop where
  a : Bd n e.1
  b : Bd n e.2.1
  c : Bd M e.2.2
  z : e.1 ≠ 0 ∨ e.2.1 ≠ 0
theorem sub0 (q : Rat) : 0 - q = -q := by grind
theorem LimB.up {n M : Nat} {l : Lim} (h : LimB n M l) : EdS n M (upE l) := by
  refine ⟨h.a, h.b, ?_, ?_⟩
  · show Bd M (0 - l.lo)
    rw [sub0]; exact h.lo.neg
  · show l.a ≠ 0 ∨ l.b ≠ 0
    by_cases z : l.a = 0
    · exact .inr (h.z z)
    · exact .inl z
theorem LimB.dn {n M : Nat} {l : Lim} (h : LimB n M l) : EdS n M (dnE l) := by
  refine ⟨?_, ?_, h.hi, ?_⟩
  · show Bd n (0 - l.a)
    rw [sub0]; exact h.a.neg
  · show Bd n (0 - l.b)
    rw [sub0]; exact h.b.neg
  · show 0 - l.a ≠ 0 ∨ 0 - l.b ≠ 0
    by_cases z : l.a = 0
    · right
      have := h.z z
      grind
    · left
      grind
structure Poly (L k : Nat) (ps : List Ray) : Prop where
  es : ES ps
  pb : PolB L ps
  len : ps.length ≤ k
theorem Poly.rb {L k : Nat} {ps : List Ray} (h : Poly L k ps) : ∀ p ∈ ps, RB (2 * L + 1) p := fun p hp => (h.pb.two p hp).rb
theorem Poly.rn {L k : Nat} {ps : List Ray} (h : Poly L k ps) : ∀ p ∈ ps, Rn (2 * L + 1) p := fun p hp => ⟨(h.rb p hp).y, (h.rb p hp).u⟩
def cutL (ps : List Ray) (l : Lim) : List Ray := cutS (dnE l) (cutS (upE l) ps)
def cutJ (ps : List Ray) (l : Lim) : Nat → List Ray
  | 0 => ps
  | 1 => cutS (upE l) ps
  | _ => cutL ps l
def fieldF (ls : List Lim) (ps : List Ray) : List Ray := ls.foldl cutL ps
def fieldR (ls : List Lim) (x : Box) : List Ray := rotL (fieldF ls (boxC x))
theorem fieldF_snoc {ls : List Lim} {i : Nat} {l : Lim} (h : ls[i]? = some l) (ps : List Ray) : fieldF (ls.take (i + 1)) ps = cutL (fieldF (ls.take i) ps) l := by
  unfold fieldF
  rw [List.take_add_one, h]
  show (ls.take i ++ [l]).foldl cutL ps = _
  rw [List.foldl_append]
  rfl
theorem box_poly {L : Nat} {x : Box} (h : x.ok) (b : x.bd L) (h0 : 0 < L) : Poly L 4 (boxC x) := ⟨box_ES h, box_bits h b h0, box_len h⟩
theorem lim_in {ps : List Ray} {l : Lim} (h : ES ps) (z : l.a = 0 → l.b ≠ 0) (r : Ray) : InP (cutL ps l) r ↔ InP ps r ∧ l.bad r = false := by
  have z1 : (upE l).1 ≠ 0 ∨ (upE l).2.1 ≠ 0 := by
    show l.a ≠ 0 ∨ l.b ≠ 0
    by_cases c : l.a = 0
    · exact .inr (z c)
    · exact .inl c
  have z2 : (dnE l).1 ≠ 0 ∨ (dnE l).2.1 ≠ 0 := by
    show 0 - l.a ≠ 0 ∨ 0 - l.b ≠ 0
    rcases z1 with c | c
    · left; have c : l.a ≠ 0 := c; grind
    · right; have c : l.b ≠ 0 := c; grind
  obtain ⟨es, i1⟩ := cutS_ok h z1
  obtain ⟨_, i2⟩ := cutS_ok es z2
  unfold cutL
  rw [i2, i1, and_assoc]
  have e1 : roomR (upE l) r = l.a * r.1 + l.b * r.2 + (0 - l.lo) := rfl
  have e2 : roomR (dnE l) r = (0 - l.a) * r.1 + (0 - l.b) * r.2 + l.hi := rfl
  rw [e1, e2]
  unfold Lim.bad
  rw [Bool.or_eq_false_iff, decide_eq_false_iff_not, decide_eq_false_iff_not]
  constructor
  · rintro ⟨h1, h2, h3⟩; exact ⟨h1, by grind, by grind⟩
  · rintro ⟨h1, h2, h3⟩; exact ⟨h1, by grind, by grind⟩
theorem first_none (r : Ray) : ∀ ls : List Lim, firstL ls r = none ↔ ∀ l ∈ ls, l.bad r = false
  | [] => by simp [firstL]
  | l :: ls => by
    rw [firstL]
    by_cases c : l.bad r = true
    · rw [if_pos c]
      simp [c]
    · rw [if_neg c, first_none r ls]
      simp [c]
theorem num_mul (x y : Rat) : x.num * y.num < 0 ↔ x * y < 0 := by
  have h1 := num_den x
  have h2 := num_den y
  have p1 : (0 : Rat) < (x.den : Rat) := by
    have := x.den_pos
    exact_mod_cast this
  have p2 : (0 : Rat) < (y.den : Rat) := by
    have := y.den_pos
    exact_mod_cast this
  have e : ((x.num * y.num : Int) : Rat) = ((x.den : Rat) * (y.den : Rat)) * (x * y) := by
    rw [Rat.intCast_mul, ← h1, ← h2]; grind
  have c : (((x.num * y.num : Int) : Rat) < ((0 : Int) : Rat)) ↔ x.num * y.num < 0 := Rat.intCast_lt_intCast
  rw [← c, e]
  have pp := Rat.mul_pos p1 p2
  generalize (x.den : Rat) * (y.den : Rat) = k at pp ⊢
  show k * (x * y) < 0 ↔ x * y < 0
  generalize x * y = z
  have := nn_of (z := z) pp
  grind
theorem num_nn (x : Rat) : 0 ≤ x.num ↔ 0 ≤ x := Rat.num_nonneg
def stepC (e : Edg) (left : List Ray) (x : Ray × Ray) : List Ray := (if roomR e x.1 * roomR e x.2 < 0 ∧ crossP e x.1 x.2 ∉ left then left ++ [crossP e x.1 x.2] else left) ++ (if 0 ≤ roomR e x.2 then [x.2] else [])
theorem cutG_fold (e : Edg) : ∀ (xs : List (Ray × Ray)) (left : List Ray), cutG e xs left = xs.foldl (stepC e) left
  | [], left => rfl
  | x :: r, left => by
    rw [cutG, cutG_fold e r]
    rfl
def cutI (e : Edg) (ps : List Ray) (i : Nat) : List Ray := ((edgesR ps).take i).foldl (stepC e) []
theorem cutI_succ (e : Edg) {ps : List Ray} {i : Nat} (h : i < ps.length) : cutI e ps (i + 1) = stepC e (cutI e ps i) (prevR ps i, atR ps i) := by
  unfold cutI
  rw [List.take_add_one, edges_at h]
  show ((edgesR ps).take i ++ [(prevR ps i, atR ps i)]).foldl (stepC e) [] = _
  rw [List.foldl_append]
  rfl
theorem cutI_len (e : Edg) (ps : List Ray) : cutI e ps ps.length = cutS e ps := by
  unfold cutI cutS
  rw [cutG_fold, ← edges_len, List.take_length]
theorem stepC_len (e : Edg) (left : List Ray) (x : Ray × Ray) : (stepC e left x).length ≤ left.length + 2 := by
  unfold stepC
  rw [List.length_append]
  have h1 : (if roomR e x.1 * roomR e x.2 < 0 ∧ crossP e x.1 x.2 ∉ left then left ++ [crossP e x.1 x.2] else left).length ≤ left.length + 1 := by
    split
    · rw [List.length_append]; simp
    · omega
  have h2 : (if 0 ≤ roomR e x.2 then [x.2] else []).length ≤ 1 := by
    split
    · simp
    · simp
  omega
theorem fold_len (e : Edg) : ∀ (xs : List (Ray × Ray)) (left : List Ray), (xs.foldl (stepC e) left).length ≤ left.length + 2 * xs.length
  | [], left => by simp
  | x :: r, left => by
    have := fold_len e r (stepC e left x)
    have h2 := stepC_len e left x
    rw [List.foldl_cons, List.length_cons]
    omega
theorem cutI_le (e : Edg) (ps : List Ray) (i : Nat) : (cutI e ps i).length ≤ 2 * i := by
  have h := fold_len e ((edgesR ps).take i) []
  have h2 : ((edgesR ps).take i).length ≤ i := by rw [List.length_take]; omega
  simp only [List.length_nil] at h
  unfold cutI
  omega
def dedI (cs : List Ray) (i : Nat) : List Ray := (cs.take i).foldl (fun acc c => if c ∈ acc then acc else acc ++ [c]) []
theorem dedup_fold : ∀ (cs acc : List Ray), dedup cs acc = cs.foldl (fun acc c => if c ∈ acc then acc else acc ++ [c]) acc
  | [], acc => rfl
  | c :: cs, acc => by rw [dedup, dedup_fold cs]; rfl
theorem dedI_succ {cs : List Ray} {i : Nat} {c : Ray} (h : cs[i]? = some c) : dedI cs (i + 1) = if c ∈ dedI cs i then dedI cs i else dedI cs i ++ [c] := by
  unfold dedI
  rw [List.take_add_one, h]
  show (cs.take i ++ [c]).foldl _ [] = _
  rw [List.foldl_append]
  rfl
theorem dedI_len (cs : List Ray) : dedI cs cs.length = dedup cs [] := by
  unfold dedI
  rw [dedup_fold, List.take_length]
theorem dedI_le (cs : List Ray) : ∀ i, (dedI cs i).length ≤ i
  | 0 => by simp [dedI]
  | i + 1 => by
    have ih := dedI_le cs i
    cases h : cs[i]? with
    | none =>
      unfold dedI at ih ⊢
      rw [List.take_add_one, h]
      simp only [Option.toList, List.append_nil]
      omega
    | some c =>
      rw [dedI_succ h]
      split
      · omega
      · rw [List.length_append]; simp; omega
theorem mem_any (cs : List Ray) (r : Ray) : cs.any (fun c => decide (c = r)) = decide (r ∈ cs) := by
  rw [Bool.eq_iff_iff, List.any_eq_true, decide_eq_true_iff]
  constructor
  · rintro ⟨c, hc, e⟩
    rw [decide_eq_true_iff] at e
    exact e ▸ hc
  · intro h
    exact ⟨r, h, by simp⟩
def RTurn2 : List PyData → PyData → Prop := fun ds d => ∃ s e r n m, ds = [rayD s, rayD e, rayD r] ∧ Rn n s ∧ Rn n e ∧ Rn m r ∧ 6 * n + 2 * m + 5 ≤ 4000 ∧ d = frD (turnR s e r)
def RWithin2 : List PyData → PyData → Prop := fun ds d => ∃ cs r n m, ds = [raysD cs, rayD r] ∧ (∀ c ∈ cs, Rn n c) ∧ Rn m r ∧ 6 * n + 2 * m + 5 ≤ 4000 ∧ cs.length ≤ 200 ∧ d = .bool (withinR cs r)
def RStrch : List PyData → PyData → Prop := fun ds d => ∃ p q, ds = [frD p, frD q] ∧ Sm p ∧ Sm q ∧ p ≤ q ∧ d = .bool true
def RIsBox : List PyData → PyData → Prop := fun ds d => ∃ x n, ds = [boxD x] ∧ x.ok ∧ x.bd n ∧ n ≤ 4000 ∧ d = .bool true
def RLookBox : List PyData → PyData → Prop := fun ds d => ∃ x n, ds = [boxD x] ∧ x.ok ∧ x.bd n ∧ n ≤ 4000 ∧ d = .none
def RCorn : List PyData → PyData → Prop := fun ds d => ∃ x, ds = [boxD x] ∧ d = raysD (boxC x)
def REdges : List PyData → PyData → Prop := fun ds d => ∃ l n M, ds = [limD l] ∧ LimB n M l ∧ n ≤ 4000 ∧ M ≤ 4000 ∧ d = .list [edgD (upE l), edgD (dnE l)]
def RRoom : List PyData → PyData → Prop := fun ds d => ∃ e r n M c, ds = [edgD e, rayD r] ∧ EdS n M e ∧ Rn c r ∧ 2 * (c + n) + M + 2 ≤ 4000 ∧ d = frD (roomR e r)
def RCross : List PyData → PyData → Prop := fun ds d => ∃ p q x y c k, ds = [rayD p, rayD q, frD x, frD y] ∧ Rn c p ∧ Rn c q ∧ Bd k x ∧ Bd k y ∧ x - y ≠ 0 ∧ 3 * k + 2 * c + 2 ≤ 4000 ∧ d = rayD (mixR (x / (x - y)) p q)
def RCut : List PyData → PyData → Prop := fun ds d => ∃ e ps n M c, ds = [edgD e, raysD ps] ∧ EdS n M e ∧ (∀ p ∈ ps, Rn c p) ∧ 3 * (2 * (c + n) + M + 2) + 2 * c + 2 ≤ 4000 ∧ ps.length ≤ 200 ∧ d = raysD (cutS e ps)
def spFrom (K : PySem.W.Frag) : Sp := fun vs H Q _ => ∃ (v : V) (cs : List Ray) (n : Nat), vs = [v] ∧ DV K H v (raysD cs) ∧ (∀ c ∈ cs, Rn n c) ∧ n ≤ 4000 ∧ cs.length ≤ 200 ∧ ∀ l rs H', Same H H' → H l = none → H' l = some (.lst rs) → DVs K H' rs ((rotL cs).map rayD) → Q (.ref l) H'
theorem DV.t4b {K : PySem.W.Frag} {H : Hp} {v : V} {x : Box} (h : DV K H v (boxD x)) : ∃ a x1 x2 x3 x4, v = .ref a ∧ SqT K H a [x1, x2, x3, x4] ∧ DV K H x1 (frD x.a) ∧ DV K H x2 (frD x.b) ∧ DV K H x3 (frD x.c) ∧ DV K H x4 (frD x.d) := by
  obtain ⟨a, xs, rfl, ha, hxs⟩ := DV.tup_of h
  obtain ⟨x1, x2, x3, x4, rfl, h1, h2, h3, h4⟩ := hxs.four
  exact ⟨a, x1, x2, x3, x4, rfl, ha, h1, h2, h3, h4⟩
theorem DV.t3e {K : PySem.W.Frag} {H : Hp} {v : V} {e : Edg} (h : DV K H v (edgD e)) : ∃ a x y z, v = .ref a ∧ SqT K H a [x, y, z] ∧ DV K H x (frD e.1) ∧ DV K H y (frD e.2.1) ∧ DV K H z (frD e.2.2) := by
  obtain ⟨a, xs, rfl, ha, hxs⟩ := DV.tup_of h
  obtain ⟨x, y, z, rfl, h1, h2, h3⟩ := hxs.three
  exact ⟨a, x, y, z, rfl, ha, h1, h2, h3⟩
end Lib
namespace Lib
open PySem L2 Fr Op
theorem fr_at {K : PySem.W.Frag} {H : Hp} {v : V} {q : Rat} (h : DV K H v (frD q)) : ∃ a, v = .ref a ∧ SqT K H a [.int q.num, .int (q.den : Int)] := by
  obtain ⟨a, xs, rfl, ha, hxs⟩ := DV.tup_of h
  obtain ⟨x, y, rfl, h1, h2⟩ := hxs.two
  obtain rfl := h1.int_of
  obtain rfl := h2.int_of
  exact ⟨a, rfl, ha⟩
theorem dvs_room {K : PySem.W.Frag} {H : Hp} {rs : List V} {ps : List Ray} {e : Edg} (h : DVs K H rs ((ps.map (roomR e)).map frD)) {i : Nat} (hi : i < ps.length) : ∃ v, rs[i]? = some v ∧ DV K H v (frD (roomR e (atR ps i))) := by
  have hl := h.len
  rw [List.length_map, List.length_map] at hl
  obtain ⟨d, hd, hv⟩ := h.get (i := i) (List.getElem?_eq_getElem (show i < rs.length by omega))
  rw [List.getElem?_map, List.getElem?_map, List.getElem?_eq_getElem hi] at hd
  have e1 : atR ps i = ps[i] := atR_of (List.getElem?_eq_getElem hi)
  cases hd
  rw [e1]
  exact ⟨_, List.getElem?_eq_getElem (show i < rs.length by omega), hv⟩
theorem dvs_rprev {K : PySem.W.Frag} {H : Hp} {rs : List V} {ps : List Ray} {e : Edg} (h : DVs K H rs ((ps.map (roomR e)).map frD)) {i : Nat} (hi : i < ps.length) : ∃ v, atI rs ((i : Int) - 1) = some v ∧ DV K H v (frD (roomR e (prevR ps i))) := by
  have hl := h.len
  rw [List.length_map, List.length_map] at hl
  cases i with
  | zero =>
    obtain ⟨v, hv, hd⟩ := dvs_room h (i := ps.length - 1) (by omega)
    refine ⟨v, ?_, hd⟩
    rw [show (((0 : Nat) : Int) - 1) = -1 from rfl]
    exact atI_m1 (by rw [hl]; exact hv)
  | succ j =>
    obtain ⟨v, hv, hd⟩ := dvs_room h (i := j) (by omega)
    refine ⟨v, ?_, hd⟩
    rw [show (((j + 1 : Nat) : Int) - 1) = (j : Int) by omega]
    exact atI_nat hv
theorem sqT_keepT {K : PySem.W.Frag} {H H' : Hp} (s : SameT H H') {a : Addr} {xs : List V} (h : SqT K H a xs) : SqT K H' a xs := by
  rcases h with (h | ⟨o, h⟩) | h
  · exact .inl (.inl ((s _ _).1 h))
  · exact .inl (.inr ⟨o, (s _ _).2 o h⟩)
  · exact .inr h
end Lib
namespace L2
open PySem PySem.Spec PyProof.Rows PySem.Builtin
end L2
namespace Lib
open PySem L2 Fr Op
end Lib
namespace L2
open PySem PySem.Spec PyProof.Rows PySem.Builtin
end L2
namespace Op
open Fr
theorem atR_get {cs : List Ray} {i : Nat} (h : i < cs.length) : atR cs i = cs[i] := by
  unfold atR
  rw [List.getD_eq_getElem?_getD, List.getElem?_eq_getElem h]
  rfl
theorem atR_in {cs : List Ray} {i : Nat} (h : i < cs.length) : atR cs i ∈ cs := by rw [atR_get h]; exact List.getElem_mem h
theorem atR_inj {cs : List Ray} (nd : cs.Nodup) {i j : Nat} (hi : i < cs.length) (hj : j < cs.length) (e : atR cs i = atR cs j) : i = j := by
  rw [atR_get hi, atR_get hj] at e
  have pw := List.pairwise_iff_getElem.mp nd
  rcases Nat.lt_trichotomy i j with c | c | c
  · exact absurd e (pw i j hi hj c)
  · exact c
  · exact absurd e.symm (pw j i hj hi c)
theorem next_edge {cs : List Ray} {k : Nat} (h : k < cs.length) : (atR cs k, atR cs ((k + 1) % cs.length)) ∈ edgesR cs := by
  by_cases c : k + 1 < cs.length
  · rw [Nat.mod_eq_of_lt c]
    refine edges_iff.mpr ⟨k + 1, c, ?_⟩
    unfold prevR
    rw [if_neg (by omega)]
    rfl
  · have e : k + 1 = cs.length := by omega
    rw [e, Nat.mod_self]
    refine edges_iff.mpr ⟨0, by omega, ?_⟩
    unfold prevR
    rw [if_pos rfl, show cs.length - 1 = k by omega]
end Op
namespace Lib
open PySem L2 Fr Op
end Lib
namespace Op
open Fr
theorem corner_f {ps : List Ray} (h : ES ps) {c : Ray} (hc : c ∈ ps) : ∃ f : Ray → Rat, Aff f ∧ f c = 0 ∧ ∀ p ∈ ps, p ≠ c → 0 < f p := by
  rcases len_cases ps with rfl | ⟨p, rfl⟩ | ⟨p, q, rfl⟩ | h3
  · cases hc
  · refine ⟨fun _ => 0, ⟨0, 0, 0, fun r => by grind⟩, rfl, fun z hz n => ?_⟩
    rw [List.mem_singleton.mp hz, List.mem_singleton.mp hc] at n
    exact absurd rfl n
  · have n : p ≠ q := by have := h.nd; simpa using this
    have key : ∀ a b : Ray, a ≠ b → ∃ f : Ray → Rat, Aff f ∧ f a = 0 ∧ 0 < f b := fun a b nab => by
      refine ⟨fun z => (b.1 - a.1) * (z.1 - a.1) + (b.2 - a.2) * (z.2 - a.2), ⟨b.1 - a.1, b.2 - a.2, -((b.1 - a.1) * a.1 + (b.2 - a.2) * a.2), fun r => by grind⟩, by grind, ?_⟩
      dsimp only
      have s1 : 0 ≤ (b.1 - a.1) * (b.1 - a.1) := by
        rcases (show 0 ≤ b.1 - a.1 ∨ b.1 - a.1 < 0 by grind) with c | c
        · exact Rat.mul_nonneg c c
        · have := Rat.mul_nonneg (show 0 ≤ -(b.1 - a.1) by grind) (show 0 ≤ -(b.1 - a.1) by grind)
          grind
      have s2 : 0 ≤ (b.2 - a.2) * (b.2 - a.2) := by
        rcases (show 0 ≤ b.2 - a.2 ∨ b.2 - a.2 < 0 by grind) with c | c
        · exact Rat.mul_nonneg c c
        · have := Rat.mul_nonneg (show 0 ≤ -(b.2 - a.2) by grind) (show 0 ≤ -(b.2 - a.2) by grind)
          grind
      rcases (show (b.1 - a.1) * (b.1 - a.1) + (b.2 - a.2) * (b.2 - a.2) = 0 ∨ 0 < (b.1 - a.1) * (b.1 - a.1) + (b.2 - a.2) * (b.2 - a.2) by grind) with c | c
      · exfalso
        have z1 : (b.1 - a.1) * (b.1 - a.1) = 0 := by grind
        have z2 : (b.2 - a.2) * (b.2 - a.2) = 0 := by grind
        apply nab
        refine Prod.ext ?_ ?_
        · rcases mulz z1 with y | y <;> grind
        · rcases mulz z2 with y | y <;> grind
      · exact c
    simp only [List.mem_cons, List.not_mem_nil, or_false] at hc
    rcases hc with rfl | rfl
    · obtain ⟨f, hf, f0, f1⟩ := key c q n
      refine ⟨f, hf, f0, fun z hz nz => ?_⟩
      simp only [List.mem_cons, List.not_mem_nil, or_false] at hz
      rcases hz with rfl | rfl
      · exact absurd rfl nz
      · exact f1
    · obtain ⟨f, hf, f0, f1⟩ := key c p (Ne.symm n)
      refine ⟨f, hf, f0, fun z hz nz => ?_⟩
      simp only [List.mem_cons, List.not_mem_nil, or_false] at hz
      rcases hz with rfl | rfl
      · exact f1
      · exact absurd rfl nz
  · obtain ⟨a, ha⟩ := edges_into hc
    obtain ⟨b, hb⟩ := edges_from hc
    have nac : a ≠ c := edges_ne h.nd (by omega) ha
    have nab : a ≠ b := fun e => h.back h3 ha (e ▸ hb)
    have ma := (edges_mem ha).1
    refine ⟨fun z => turnR a c z + turnR c b z, ?_, ?_, fun z hz nz => ?_⟩
    · obtain ⟨a1, b1, c1, e1⟩ := aff_turn a c
      obtain ⟨a2, b2, c2, e2⟩ := aff_turn c b
      exact ⟨a1 + a2, b1 + b2, c1 + c2, fun r => by rw [e1, e2]; grind⟩
    · show turnR a c c + turnR c b c = 0
      rw [turn_pqq, turn_pqp]; grind
    · have g1 := h.ge ha hz
      have g2 := h.ge hb hz
      dsimp only at g1 g2 ⊢
      by_cases e : z = a
      · have := h.st _ hb z hz (by rw [e]; exact nac) (by rw [e]; exact nab)
        dsimp only at this
        grind
      · have := h.st _ ha z hz e nz
        dsimp only at this
        grind
theorem Aff.eq3 {f : Ray → Rat} (hf : Aff f) {a b c x : Ray} {u v w : Rat} (s : u + v + w = 1) (e1 : x.1 = u * a.1 + v * b.1 + w * c.1) (e2 : x.2 = u * a.2 + v * b.2 + w * c.2) : f x = u * f a + v * f b + w * f c := Mean.aff hf s e1 e2
theorem in_pos {ps : List Ray} (h : ES ps) {f : Ray → Rat} (hf : Aff f) {c : Ray} (hp : ∀ p ∈ ps, p ≠ c → 0 < f p) (f0 : f c = 0) {x : Ray} (hx : InP ps x) : x = c ∨ 0 < f x := by
  have nn : ∀ p ∈ ps, 0 ≤ f p := fun p m => by
    by_cases e : p = c
    · rw [e, f0]; grind
    · have := hp p m e; grind
  have pos : ∀ {u : Rat} {p : Ray}, 0 ≤ u → p ∈ ps → u * f p = 0 → u = 0 ∨ p = c := fun {u p} u0 m z => by
    rcases mulz z with y | y
    · exact .inl y
    · by_cases e : p = c
      · exact .inr e
      · have := hp p m e; grind
  rcases len_cases ps with rfl | ⟨p, rfl⟩ | ⟨p, q, rfl⟩ | h3
  · cases hx
  · have hx : x = p := hx
    subst hx
    by_cases e : x = c
    · exact .inl e
    · exact .inr (hp x (by simp) e)
  · obtain ⟨t, t0, t1, rfl⟩ := hx
    have mp : p ∈ [p, q] := by simp
    have mq : q ∈ [p, q] := by simp
    have ef : f (mixR t p q) = (1 - t) * f p + t * f q + 0 * f p := hf.eq3 (by grind) (by unfold mixR; dsimp only; grind) (by unfold mixR; dsimp only; grind)
    have n1 := Rat.mul_nonneg (show 0 ≤ 1 - t by grind) (nn p mp)
    have n2 := Rat.mul_nonneg t0 (nn q mq)
    rcases (show f (mixR t p q) = 0 ∨ 0 < f (mixR t p q) by grind) with z | z
    · left
      rcases pos (show 0 ≤ 1 - t by grind) mp (by grind) with y | y
      · have t1 : t = 1 := by grind
        subst t1
        rcases pos (show (0 : Rat) ≤ 1 by grind) mq (by grind) with y | y
        · grind
        · rw [mix_one]; exact y
      · rcases pos t0 mq (by grind) with y2 | y2
        · rw [y2, mix_zero]; exact y
        · rw [y, y2]; unfold mixR; exact Prod.ext (by dsimp only; grind) (by dsimp only; grind)
    · exact .inr z
  · obtain ⟨a, ma, b, mb, d, md, m⟩ := within_mean h h3 ((InP.three h3).mp hx)
    obtain ⟨u, v, w, u0, v0, w0, sm, e1, e2⟩ := m
    have ef := hf.eq3 sm e1 e2
    have n1 := Rat.mul_nonneg u0 (nn a ma)
    have n2 := Rat.mul_nonneg v0 (nn b mb)
    have n3 := Rat.mul_nonneg w0 (nn d md)
    rcases (show f x = 0 ∨ 0 < f x by grind) with z | z
    · left
      have c1 := pos u0 ma (by grind)
      have c2 := pos v0 mb (by grind)
      have c3 := pos w0 md (by grind)
      have k : ∀ {u : Rat} {p : Ray}, (u = 0 ∨ p = c) → u * p.1 = u * c.1 ∧ u * p.2 = u * c.2 := fun {u p} o => by
        rcases o with rfl | rfl
        · constructor <;> grind
        · exact ⟨rfl, rfl⟩
      obtain ⟨k1, k1'⟩ := k c1
      obtain ⟨k2, k2'⟩ := k c2
      obtain ⟨k3, k3'⟩ := k c3
      refine Prod.ext ?_ ?_
      · rw [e1, k1, k2, k3]; grind
      · rw [e2, k1', k2', k3']; grind
    · exact .inr z
theorem corner_stays {ps qs : List Ray} (hp : ES ps) (hq : ES qs) (sub : ∀ x, InP qs x → InP ps x) {c : Ray} (hc : c ∈ ps) (hin : InP qs c) : c ∈ qs := by
  obtain ⟨f, hf, f0, f1⟩ := corner_f hp hc
  by_cases m : c ∈ qs
  · exact m
  · exfalso
    have fq : ∀ q ∈ qs, 0 < f q := fun q hq' => by
      rcases in_pos hp hf f1 f0 (sub q (in_self hq hq')) with e | e
      · exact absurd (e ▸ hq') m
      · exact e
    have ne : qs ≠ [] := by rintro rfl; cases hin
    obtain ⟨q0, rest, rfl⟩ := List.exists_cons_of_ne_nil ne
    -- the least of f at the corners is above 0
    have least : ∀ l : List Ray, (∀ q ∈ l, 0 < f q) → ∃ k : Rat, 0 < k ∧ ∀ q ∈ l, k ≤ f q := fun l => by
      induction l with
      | nil => intro _; exact ⟨1, by grind, fun _ h => nomatch h⟩
      | cons y l ih =>
        intro hy
        obtain ⟨k, k0, hk⟩ := ih (fun q hq => hy q (List.mem_cons_of_mem _ hq))
        have y0 := hy y List.mem_cons_self
        by_cases o : k ≤ f y
        · refine ⟨k, k0, fun q hq => ?_⟩
          rcases List.mem_cons.mp hq with rfl | hq
          · exact o
          · exact hk q hq
        · refine ⟨f y, y0, fun q hq => ?_⟩
          rcases List.mem_cons.mp hq with rfl | hq
          · grind
          · have := hk q hq; grind
    obtain ⟨k, k0, hk⟩ := least _ fq
    have hg : Aff (fun z => f z - k) := by
      obtain ⟨a, b, d, e⟩ := hf
      exact ⟨a, b, d - k, fun r => by rw [e]; grind⟩
    have : 0 ≤ f c - k := in_aff hq hin hg (fun p hp' => by have := hk p hp'; grind)
    rw [f0] at this
    grind
theorem nodup_le : ∀ (l m : List Ray), l.Nodup → (∀ x ∈ l, x ∈ m) → l.length ≤ m.length
  | [], m, _, _ => Nat.zero_le _
  | x :: l, m, nd, h => by
    rw [List.nodup_cons] at nd
    have hx := h x List.mem_cons_self
    have ih := nodup_le l (m.erase x) nd.2 (fun y hy => (List.mem_erase_of_ne (show y ≠ x from fun e => nd.1 (by rw [← e]; exact hy))).mpr (h y (List.mem_cons_of_mem _ hy)))
    rw [List.length_erase_of_mem hx] at ih
    have := List.length_pos_of_mem hx
    rw [List.length_cons]
    omega
theorem list_at {ps qs : List Ray} (hl : ps.length = qs.length) (h : ∀ k, k < ps.length → atR ps k = atR qs k) : ps = qs := by
  apply List.ext_getElem hl
  intro i h1 h2
  rw [← atR_get h1, ← atR_get h2]
  exact h i h1
theorem one_list {ps qs : List Ray} (hp : ES ps) (hq : ES qs) (lp : Lf ps) (lq : Lf qs) (same : ∀ x, InP ps x ↔ InP qs x) : ps = qs := by
  have m1 : ∀ c ∈ ps, c ∈ qs := fun c hc => corner_stays hp hq (fun x hx => (same x).mpr hx) hc ((same c).mp (in_self hp hc))
  have m2 : ∀ c ∈ qs, c ∈ ps := fun c hc => corner_stays hq hp (fun x hx => (same x).mp hx) hc ((same c).mpr (in_self hq hc))
  have hl : ps.length = qs.length := Nat.le_antisymm (nodup_le _ _ hp.nd m1) (nodup_le _ _ hq.nd m2)
  refine list_at hl fun k hk => ?_
  have h0 : 0 < ps.length := by omega
  have e0 : atR ps 0 = atR qs 0 := by
    by_cases e : atR ps 0 = atR qs 0
    · exact e
    · have a := bef_tot e (lp _ (m2 _ (atR_in (cs := qs) (i := 0) (by omega))))
      have b := lq _ (m1 _ (atR_in h0))
      rw [a] at b
      cases b
  by_cases h3 : 3 ≤ ps.length
  · induction k with
    | zero => exact e0
    | succ k ih =>
      have ek := ih (by omega)
      have n1 := next_edge (cs := ps) (k := k) (by omega)
      have n2 := next_edge (cs := qs) (k := k) (by omega)
      rw [Nat.mod_eq_of_lt hk] at n1
      rw [Nat.mod_eq_of_lt (by omega), ← ek] at n2
      by_cases e : atR ps (k + 1) = atR qs (k + 1)
      · exact e
      · exfalso
        have q1 : atR qs (k + 1) ≠ atR ps k := fun z => by
          rw [ek] at z
          have := atR_inj hq.nd (by omega) (by omega) z
          omega
        have p1 : atR ps (k + 1) ≠ atR ps k := fun z => by
          have := atR_inj hp.nd (by omega) (by omega) z
          omega
        have t1 := hp.st _ n1 (atR qs (k + 1)) (m2 _ (atR_in (by omega))) q1 (Ne.symm e)
        have t2 := hq.st _ n2 (atR ps (k + 1)) (m1 _ (atR_in (by omega))) p1 e
        dsimp only at t1 t2
        rw [turn_swap] at t2
        grind
  · match k, hk with
    | 0, _ => exact e0
    | 1, hk =>
      have i1 := m1 _ (atR_in hk)
      obtain ⟨j, hj, ej⟩ := List.mem_iff_getElem.mp i1
      have ej' : atR qs j = atR ps 1 := by rw [atR_get hj]; exact ej
      have : j ≠ 0 := fun z => by
        rw [z, ← e0] at ej'
        have := atR_inj hp.nd (by omega) hk ej'
        omega
      rw [← ej', show j = 1 by omega]
    | k + 2, hk => omega
end Op
namespace L2
open PySem PySem.Spec PyProof.Rows PySem.Builtin
end L2
namespace Lib
open PySem L2 Fr Op
end Lib
namespace Op
open Fr
def sumE (f : Ray × Ray → Rat) : List (Ray × Ray) → Rat
  | [] => 0
  | x :: r => f x + sumE f r
theorem sumE_append (f : Ray × Ray → Rat) : ∀ a b, sumE f (a ++ b) = sumE f a + sumE f b
  | [], b => by show sumE f b = 0 + sumE f b; grind
  | x :: a, b => by
    show f x + sumE f (a ++ b) = f x + sumE f a + sumE f b
    rw [sumE_append f a b]; grind
theorem sumE_congr {f g : Ray × Ray → Rat} : ∀ {l : List (Ray × Ray)}, (∀ x ∈ l, f x = g x) → sumE f l = sumE g l
  | [], _ => rfl
  | x :: l, h => by
    show f x + sumE f l = g x + sumE g l
    rw [h x List.mem_cons_self, sumE_congr fun y hy => h y (List.mem_cons_of_mem _ hy)]
theorem sumE_add (f g : Ray × Ray → Rat) : ∀ l, sumE (fun x => f x + g x) l = sumE f l + sumE g l
  | [] => by show (0 : Rat) = 0 + 0; grind
  | x :: l => by
    show f x + g x + sumE _ l = (f x + sumE f l) + (g x + sumE g l)
    rw [sumE_add f g l]; grind
theorem sumE_nn {f : Ray × Ray → Rat} : ∀ {l : List (Ray × Ray)}, (∀ x ∈ l, 0 ≤ f x) → 0 ≤ sumE f l
  | [], _ => by show (0 : Rat) ≤ 0; grind
  | x :: l, h => by
    have a := h x List.mem_cons_self
    have b := sumE_nn fun y hy => h y (List.mem_cons_of_mem _ hy)
    show 0 ≤ f x + sumE f l
    grind
def crE (x : Ray × Ray) : Rat := crossR x.1 x.2
def tnE (o : Ray) (x : Ray × Ray) : Rat := turnR o x.1 x.2
theorem take_sum (f : Ray × Ray → Rat) {ps : List Ray} {i : Nat} (h : i < ps.length) : sumE f ((edgesR ps).take (i + 1)) = sumE f ((edgesR ps).take i) + f (prevR ps i, atR ps i) := by
  rw [List.take_add_one, edges_at h, sumE_append]
  show _ + (f (prevR ps i, atR ps i) + 0) = _
  grind
theorem twice_sum (ps : List Ray) : ∀ i, i ≤ ps.length → twiceR ps i = sumE crE ((edgesR ps).take i)
  | 0, _ => rfl
  | i + 1, h => by
    rw [take_sum crE h, twiceR, twice_sum ps i (by omega)]
    rfl
theorem twice_all (ps : List Ray) : twiceR ps ps.length = sumE crE (edgesR ps) := by
  rw [twice_sum ps _ (Nat.le_refl _)]
  congr 1
  rw [← edges_len ps, List.take_length]
theorem tele (o : Ray) : ∀ (ps : List Ray) (l : Ray), sumE (fun x => crossR o x.2 - crossR o x.1) (pairsF l ps) = crossR o ((l :: ps).getLast (by simp)) - crossR o l
  | [], l => by show (0 : Rat) = crossR o l - crossR o l; grind
  | p :: r, l => by
    show (crossR o p - crossR o l) + sumE _ (pairsF p r) = _
    rw [tele o r p]
    show (crossR o p - crossR o l) + (crossR o ((p :: r).getLast (by simp)) - crossR o p) = crossR o ((p :: r).getLast (by simp)) - crossR o l
    grind
theorem sum_turn (o : Ray) (ps : List Ray) : sumE crE (edgesR ps) = sumE (tnE o) (edgesR ps) := by
  have e : ∀ x : Ray × Ray, crE x = tnE o x + (crossR o x.2 - crossR o x.1) := fun x => by
    unfold crE tnE crossR turnR
    grind
  rw [sumE_congr (g := fun x => tnE o x + (crossR o x.2 - crossR o x.1)) (fun x _ => e x), sumE_add]
  have z : sumE (fun x => crossR o x.2 - crossR o x.1) (edgesR ps) = 0 := by
    unfold edgesR
    cases h : ps.getLast? with
    | none => rfl
    | some l =>
      show sumE _ (pairsF l ps) = 0
      rw [tele]
      have ne : ps ≠ [] := by rintro rfl; cases h
      have : (l :: ps).getLast (by simp) = l := by
        rw [List.getLast_cons ne]
        have := List.getLast?_eq_some_getLast ne
        rw [h] at this
        exact (Option.some.inj this).symm
      rw [this]
      grind
  rw [z]
  grind
def partE (e : Edg) (o : Ray) (x : Ray × Ray) : Rat :=
  if 0 ≤ roomR e x.1 ∧ 0 ≤ roomR e x.2 then turnR o x.1 x.2
  else if roomR e x.1 * roomR e x.2 < 0 then (if roomR e x.1 < 0 then turnR o (crossP e x.1 x.2) x.2 else turnR o x.1 (crossP e x.1 x.2)) else 0
theorem on_line {e : Edg} (he : e.1 ≠ 0 ∨ e.2.1 ≠ 0) {o s t : Ray} (ho : roomR e o = 0) (hs : roomR e s = 0) (ht : roomR e t = 0) : turnR o s t = 0 := by
  by_cases c : o = s
  · rw [c, turn_same]
  · obtain ⟨k, _, hk⟩ := turn_line ho hs c he
    rw [hk, ht]; grind
def RelS (e : Edg) (s l : Ray) : Prop := (0 ≤ roomR e l ∧ s = l) ∨ (roomR e l < 0 ∧ roomR e s = 0)
theorem chain_sum {e : Edg} (he : e.1 ≠ 0 ∨ e.2.1 ≠ 0) {o : Ray} (ho : roomR e o = 0) : ∀ (qs : List Ray) (l s : Ray), RelS e s l → sumE (tnE o) (pairsF s ((pairsF l qs).flatMap (emitC e))) = sumE (partE e o) (pairsF l qs)
  | [], l, s, _ => rfl
  | q :: r, l, s, h => by
    show sumE (tnE o) (pairsF s (emitC e (l, q) ++ (pairsF q r).flatMap (emitC e))) = partE e o (l, q) + sumE (partE e o) (pairsF q r)
    rcases h with ⟨hl, rfl⟩ | ⟨hl, hs⟩
    · rcases (show 0 ≤ roomR e q ∨ roomR e q < 0 by grind) with hq | hq
      · have nx : ¬ roomR e s * roomR e q < 0 := fun z => by
          have := Rat.mul_nonneg hl hq
          grind
        have ee : emitC e (s, q) = [q] := by unfold emitC; rw [if_neg nx, if_pos hq]; rfl
        rw [ee]
        show turnR o s q + sumE (tnE o) (pairsF q ((pairsF q r).flatMap (emitC e))) = _
        rw [chain_sum he ho r q q (.inl ⟨hq, rfl⟩)]
        unfold partE
        rw [if_pos ⟨hl, hq⟩]
      · rcases (show roomR e s = 0 ∨ 0 < roomR e s by grind) with z | z
        · have ee : emitC e (s, q) = [] := by unfold emitC; rw [if_neg (by dsimp only; rw [z]; grind), if_neg (by dsimp only; grind)]; rfl
          rw [ee, List.nil_append, chain_sum he ho r q s (.inr ⟨hq, z⟩)]
          unfold partE
          rw [if_neg (by dsimp only; grind), if_neg (by dsimp only; rw [z]; grind)]
          grind
        · have cr : roomR e s * roomR e q < 0 := by
            have := negmul hq z
            grind
          have ee : emitC e (s, q) = [crossP e s q] := by unfold emitC; rw [if_pos cr, if_neg (by dsimp only; grind)]; rfl
          rw [ee]
          show turnR o s (crossP e s q) + sumE (tnE o) (pairsF (crossP e s q) ((pairsF q r).flatMap (emitC e))) = _
          rw [chain_sum he ho r q (crossP e s q) (.inr ⟨hq, cross_room cr⟩)]
          unfold partE
          rw [if_neg (by dsimp only; grind), if_pos cr, if_neg (by dsimp only; grind)]
    · rcases (show 0 < roomR e q ∨ roomR e q = 0 ∨ roomR e q < 0 by grind) with hq | hq | hq
      · have cr : roomR e l * roomR e q < 0 := negmul hl hq
        have ee : emitC e (l, q) = [crossP e l q, q] := by unfold emitC; rw [if_pos cr, if_pos (by dsimp only; grind)]; rfl
        rw [ee]
        show turnR o s (crossP e l q) + (turnR o (crossP e l q) q + sumE (tnE o) (pairsF q ((pairsF q r).flatMap (emitC e)))) = _
        rw [chain_sum he ho r q q (.inl ⟨by grind, rfl⟩), on_line he ho hs (cross_room cr)]
        unfold partE
        rw [if_neg (by dsimp only; grind), if_pos cr, if_pos hl]
        grind
      · have nx : ¬ roomR e l * roomR e q < 0 := by rw [hq]; grind
        have ee : emitC e (l, q) = [q] := by unfold emitC; rw [if_neg nx, if_pos (by dsimp only; grind)]; rfl
        rw [ee]
        show turnR o s q + sumE (tnE o) (pairsF q ((pairsF q r).flatMap (emitC e))) = _
        rw [chain_sum he ho r q q (.inl ⟨by grind, rfl⟩), on_line he ho hs hq]
        unfold partE
        rw [if_neg (by dsimp only; grind), if_neg nx]
      · have nx : ¬ roomR e l * roomR e q < 0 := fun z => by
          have := Rat.mul_pos (show 0 < -(roomR e l) by grind) (show 0 < -(roomR e q) by grind)
          grind
        have ee : emitC e (l, q) = [] := by unfold emitC; rw [if_neg nx, if_neg (by dsimp only; grind)]; rfl
        rw [ee, List.nil_append, chain_sum he ho r q s (.inr ⟨hq, hs⟩)]
        unfold partE
        rw [if_neg (by dsimp only; grind), if_neg nx]
        grind
theorem cut_sum {e : Edg} (he : e.1 ≠ 0 ∨ e.2.1 ≠ 0) {o : Ray} (ho : roomR e o = 0) (ps : List Ray) : sumE (tnE o) (edgesR (cutN e ps)) = sumE (partE e o) (edgesR ps) := by
  cases hl : ps.getLast? with
  | none =>
    rw [List.getLast?_eq_none_iff.mp hl]
    rfl
  | some l =>
    have e1 : edgesR ps = pairsF l ps := by unfold edgesR; rw [hl]
    have ne : ps ≠ [] := by rintro rfl; cases hl
    cases hv : (cutN e ps).getLast? with
    | none =>
      have en : cutN e ps = [] := List.getLast?_eq_none_iff.mp hv
      rw [en]
      show (0 : Rat) = _
      have neg : ∀ z ∈ ps, roomR e z < 0 := fun z hz => by
        rcases (show 0 ≤ roomR e z ∨ roomR e z < 0 by grind) with c | c
        · have : z ∈ cutN e ps := cut_mem.mpr (.inl ⟨hz, c⟩)
          rw [en] at this
          cases this
        · exact c
      have zz : ∀ x ∈ edgesR ps, partE e o x = (fun _ => (0 : Rat)) x := fun x hx => by
        obtain ⟨m1, m2⟩ := edges_mem hx
        have n1 := neg _ m1
        have n2 := neg _ m2
        unfold partE
        rw [if_neg (by grind), if_neg (fun z => by
          have := Rat.mul_pos (show 0 < -(roomR e x.1) by grind) (show 0 < -(roomR e x.2) by grind)
          grind)]
      rw [sumE_congr zz]
      have : ∀ l : List (Ray × Ray), sumE (fun _ => (0 : Rat)) l = 0 := fun l => by
        induction l with
        | nil => rfl
        | cons x l ih => show (0 : Rat) + sumE _ l = 0; rw [ih]; grind
      rw [this]
    | some v =>
      have e2 : edgesR (cutN e ps) = pairsF v (cutN e ps) := by unfold edgesR; rw [hv]
      have ec : cutN e ps = (pairsF l ps).flatMap (emitC e) := by unfold cutN; rw [e1]
      have rel : RelC e ps v ((l :: ps).getLast (by simp)) := chain_end l ps (fun x hx => by rw [e1]; exact hx) v (by rw [← ec]; exact hv)
      have el : (l :: ps).getLast (by simp) = l := by
        rw [List.getLast_cons ne]
        have := List.getLast?_eq_some_getLast ne
        rw [hl] at this
        exact (Option.some.inj this).symm
      rw [el] at rel
      have rs : RelS e v l := by
        rcases rel with h | ⟨h1, h2, _⟩
        · exact .inl h
        · exact .inr ⟨h1, h2⟩
      rw [e2, ec, e1]
      exact chain_sum he ho ps l v rs
def negE (e : Edg) : Edg := (-e.1, -e.2.1, -e.2.2)
theorem room_neg (e : Edg) (r : Ray) : roomR (negE e) r = -(roomR e r) := by unfold roomR negE; grind
theorem cross_neg (e : Edg) (p q : Ray) : crossP (negE e) p q = crossP e p q := by
  unfold crossP
  have : cutT (negE e) p q = cutT e p q := by
    unfold cutT
    rw [room_neg, room_neg]
    by_cases z : roomR e p - roomR e q = 0
    · have z2 : -(roomR e p) - -(roomR e q) = 0 := by grind
      rw [z, z2]; grind
    · have z2 : -(roomR e p) - -(roomR e q) ≠ 0 := by grind
      grind
  rw [this]
theorem part_two {e : Edg} (he : e.1 ≠ 0 ∨ e.2.1 ≠ 0) {o : Ray} (ho : roomR e o = 0) (x : Ray × Ray) : partE e o x + partE (negE e) o x = tnE o x := by
  obtain ⟨p, q⟩ := x
  unfold partE tnE
  dsimp only
  rw [room_neg, room_neg, cross_neg]
  have mix : roomR e p * roomR e q < 0 → turnR o p (crossP e p q) + turnR o (crossP e p q) q = turnR o p q := fun _ => by
    unfold crossP
    generalize cutT e p q = t
    unfold turnR mixR
    grind
  rcases (show roomR e p < 0 ∨ roomR e p = 0 ∨ 0 < roomR e p by grind) with a | a | a <;> rcases (show roomR e q < 0 ∨ roomR e q = 0 ∨ 0 < roomR e q by grind) with b | b | b
  · have := Rat.mul_pos (show 0 < -(roomR e p) by grind) (show 0 < -(roomR e q) by grind)
    rw [if_neg (by grind), if_neg (by grind), if_pos (by grind)]; grind
  · rw [if_neg (by grind), if_neg (by rw [b]; grind), if_pos (by grind)]; grind
  · have cr := negmul a b
    rw [if_neg (by grind), if_pos cr, if_pos a, if_neg (by grind), if_pos (by grind), if_neg (by grind)]
    have := mix cr
    grind
  · rw [if_neg (by grind), if_neg (by rw [a]; grind), if_pos (by grind)]; grind
  · have z := on_line he ho a b
    rw [if_pos (by grind), if_pos (by grind), z]; grind
  · rw [if_pos (by grind), if_neg (by grind), if_neg (by rw [a]; grind)]; grind
  · have cr : roomR e p * roomR e q < 0 := by have := negmul b a; grind
    rw [if_neg (by grind), if_pos cr, if_neg (by grind), if_neg (by grind), if_pos (by grind), if_pos (by grind)]
    have := mix cr
    grind
  · rw [if_pos (by grind), if_neg (by grind), if_neg (by rw [b]; grind)]; grind
  · have := Rat.mul_pos a b
    rw [if_pos (by grind), if_neg (by grind), if_neg (by grind)]; grind
theorem line_has {e : Edg} (he : e.1 ≠ 0 ∨ e.2.1 ≠ 0) : ∃ o : Ray, roomR e o = 0 := by
  rcases he with h | h
  · exact ⟨(-e.2.2 / e.1, 0), by unfold roomR; dsimp only; grind⟩
  · exact ⟨(0, -e.2.2 / e.2.1), by unfold roomR; dsimp only; grind⟩
theorem sizeN_cut {e : Edg} (he : e.1 ≠ 0 ∨ e.2.1 ≠ 0) (ps : List Ray) : sizeR (cutN e ps) + sizeR (cutN (negE e) ps) = sizeR ps := by
  obtain ⟨o, ho⟩ := line_has he
  have he' : (negE e).1 ≠ 0 ∨ (negE e).2.1 ≠ 0 := by
    unfold negE
    rcases he with h | h
    · left; dsimp only; grind
    · right; dsimp only; grind
  have ho' : roomR (negE e) o = 0 := by rw [room_neg, ho]; grind
  unfold sizeR
  rw [twice_all, twice_all, twice_all, sum_turn o, sum_turn o, sum_turn o, cut_sum he ho, cut_sum he' ho', ← sumE_congr (fun x _ => part_two he ho x), sumE_add]
  grind
theorem size_two {ps : List Ray} (h : ps.length ≤ 2) : sizeR ps = 0 := by
  rcases len_cases ps with rfl | ⟨p, rfl⟩ | ⟨p, q, rfl⟩ | h3
  · show (0 : Rat) / 2 = 0; grind
  · show (0 + crossR p p) / 2 = 0; unfold crossR; grind
  · show ((0 + crossR q p) + crossR p q) / 2 = 0; unfold crossR; grind
  · omega
theorem size_cut {e : Edg} {ps : List Ray} (h : ES ps) (he : e.1 ≠ 0 ∨ e.2.1 ≠ 0) : sizeR (cutS e ps) + sizeR (cutS (negE e) ps) = sizeR ps := by
  by_cases h3 : 3 ≤ ps.length
  · rw [cutS_three h h3, cutS_three h h3]
    exact sizeN_cut he ps
  · have le2 : ∀ e : Edg, (cutS e ps).length ≤ 2 := fun e => by
      rcases len_cases ps with rfl | ⟨p, rfl⟩ | ⟨p, q, rfl⟩ | h3'
      · exact Nat.zero_le _
      · rw [one_eq]; split <;> simp
      · rw [cut_two_eq]
        split
        · split <;> simp
        · split <;> split <;> simp
      · exact absurd h3' h3
    rw [size_two (le2 _), size_two (le2 _), size_two (by omega)]
    grind
theorem size_nn {ps : List Ray} (h : ES ps) : 0 ≤ sizeR ps := by
  by_cases h3 : 3 ≤ ps.length
  · have z0 : atR ps 0 ∈ ps := atR_in (by omega)
    unfold sizeR
    rw [twice_all, sum_turn (atR ps 0)]
    have := sumE_nn (f := tnE (atR ps 0)) (l := edgesR ps) fun x hx => by
      have := h.ge hx z0
      unfold tnE
      rw [← turn_rot]
      exact this
    grind
  · rw [size_two (by omega)]; grind
theorem size_rot {x : Ray} {r : List Ray} : sizeR (r ++ [x]) = sizeR (x :: r) := by
  unfold sizeR
  rw [twice_all, twice_all]
  have e1 : edgesR (r ++ [x]) = pairsF x (r ++ [x]) := by
    unfold edgesR
    rw [List.getLast?_append]
    rfl
  have e2 : edgesR (x :: r) = ((x :: r).getLast (by simp), x) :: pairsF x r := by
    unfold edgesR
    rw [List.getLast?_eq_some_getLast (by simp)]
    rfl
  rw [e1, e2, pairsF_snoc, sumE_append]
  show (_ + (crE _ + 0)) / 2 = (crE _ + _) / 2
  grind
theorem size_rotL (cs : List Ray) : sizeR (rotL cs) = sizeR cs := by
  obtain ⟨a, b, e1, e2⟩ := rot_eq cs
  rw [e2]
  refine rot_ind (P := fun l => sizeR l = sizeR cs) (fun x r p => size_rot.trans p) a b ?_
  rw [← e1]
theorem sum_bits {n : Nat} (l : Ray) (hl : Rb n l.1 l.2) (qs : List Ray) : (∀ q ∈ qs, Rb n q.1 q.2) → ∃ (T Y U : Int) (R N : Nat), R ≠ 0 ∧ N ≠ 0 ∧ R ≤ 2 ^ (n * qs.length) ∧ N < 2 ^ n ∧ Y.natAbs < 2 ^ n ∧ U.natAbs < 2 ^ n ∧ T.natAbs ≤ qs.length * 2 ^ (n * (qs.length + 1) + 1) ∧ ((l :: qs).getLast (by simp)).1 * (N : Rat) = (Y : Rat) ∧ ((l :: qs).getLast (by simp)).2 * (N : Rat) = (U : Rat) ∧ sumE crE (pairsF l qs) * ((N : Rat) * (R : Rat)) = (T : Rat) := by
  have un : ∀ {r : Ray}, Rb n r.1 r.2 → ∃ (Y U : Int) (N : Nat), N ≠ 0 ∧ N < 2 ^ n ∧ Y.natAbs < 2 ^ n ∧ U.natAbs < 2 ^ n ∧ r.1 * (N : Rat) = (Y : Rat) ∧ r.2 * (N : Rat) = (U : Rat) := fun {r} h => by
    obtain ⟨Y, U, N, n0, hN, hY, hU, ey, eu⟩ := h.ex
    have rN : (N : Rat) ≠ 0 := fun z => n0 (by exact_mod_cast z)
    refine ⟨Y, U, N, n0, hN, hY, hU, ?_, ?_⟩
    · rw [ey, Rat.divInt_eq_div, Rat.intCast_natCast]; grind
    · rw [eu, Rat.divInt_eq_div, Rat.intCast_natCast]; grind
  refine snoc_ind (P := fun qs => (∀ q ∈ qs, Rb n q.1 q.2) → ∃ (T Y U : Int) (R N : Nat), R ≠ 0 ∧ N ≠ 0 ∧ R ≤ 2 ^ (n * qs.length) ∧ N < 2 ^ n ∧ Y.natAbs < 2 ^ n ∧ U.natAbs < 2 ^ n ∧ T.natAbs ≤ qs.length * 2 ^ (n * (qs.length + 1) + 1) ∧ ((l :: qs).getLast (by simp)).1 * (N : Rat) = (Y : Rat) ∧ ((l :: qs).getLast (by simp)).2 * (N : Rat) = (U : Rat) ∧ sumE crE (pairsF l qs) * ((N : Rat) * (R : Rat)) = (T : Rat)) ?_ ?_ qs
  · intro _
    obtain ⟨Y, U, N, n0, hN, hY, hU, ey, eu⟩ := un hl
    refine ⟨0, Y, U, 1, N, by decide, n0, by simp, hN, hY, hU, by simp, ey, eu, ?_⟩
    show (0 : Rat) * _ = _
    rw [Rat.intCast_zero]; grind
  · intro xs x ih hq
    obtain ⟨T, Y, U, R, N, r0, n0, hR, hN, hY, hU, hT, ey, eu, es⟩ := ih (fun q hq' => hq q (List.mem_append_left _ hq'))
    obtain ⟨Y', U', N', n0', hN', hY', hU', ey', eu'⟩ := un (hq x (by simp))
    have el : (l :: (xs ++ [x])).getLast (by simp) = x := by
      show ((l :: xs) ++ [x]).getLast (by simp) = x
      rw [List.getLast_append]
      simp
    refine ⟨T * (N' : Int) + (Y * U' - U * Y') * (R : Int), Y', U', N * R, N', Nat.mul_ne_zero n0 r0, n0', ?_, hN', hY', hU', ?_, ?_, ?_, ?_⟩
    · rw [List.length_append, List.length_singleton, Nat.mul_add, Nat.mul_one, Nat.pow_add, Nat.mul_comm (2 ^ (n * xs.length))]
      exact Nat.mul_le_mul (Nat.le_of_lt hN) hR
    · rw [List.length_append, List.length_singleton]
      generalize xs.length = m at hR hT
      have a1 : (T * (N' : Int)).natAbs ≤ m * 2 ^ (n * (m + 1) + 1) * 2 ^ n := by
        rw [Int.natAbs_mul, Int.natAbs_natCast]
        exact Nat.mul_le_mul hT (Nat.le_of_lt hN')
      have a2 : (Y * U' - U * Y').natAbs ≤ 2 ^ n * 2 ^ n + 2 ^ n * 2 ^ n := by
        have b1 : (Y * U').natAbs ≤ 2 ^ n * 2 ^ n := by rw [Int.natAbs_mul]; exact Nat.mul_le_mul (Nat.le_of_lt hY) (Nat.le_of_lt hU')
        have b2 : (U * Y').natAbs ≤ 2 ^ n * 2 ^ n := by rw [Int.natAbs_mul]; exact Nat.mul_le_mul (Nat.le_of_lt hU) (Nat.le_of_lt hY')
        omega
      have a3 : ((Y * U' - U * Y') * (R : Int)).natAbs ≤ (2 ^ n * 2 ^ n + 2 ^ n * 2 ^ n) * 2 ^ (n * m) := by
        rw [Int.natAbs_mul, Int.natAbs_natCast]
        exact Nat.mul_le_mul a2 hR
      have e1 : m * 2 ^ (n * (m + 1) + 1) * 2 ^ n = m * 2 ^ (n * (m + 1 + 1) + 1) := by
        rw [Nat.mul_assoc, ← Nat.pow_add]
        congr 2
        rw [Nat.mul_add n (m + 1) 1, Nat.mul_one]
        omega
      have e2 : (2 ^ n * 2 ^ n + 2 ^ n * 2 ^ n) * 2 ^ (n * m) = 2 ^ (n * (m + 1 + 1) + 1) := by
        rw [← Nat.two_mul, ← Nat.pow_add, Nat.mul_assoc, ← Nat.pow_add, Nat.mul_comm, ← Nat.pow_succ]
        congr 1
        rw [Nat.mul_add, Nat.mul_add, Nat.mul_one]
        omega
      rw [e1] at a1
      rw [e2] at a3
      rw [Nat.add_mul, Nat.one_mul]
      omega
    · rw [el]; exact ey'
    · rw [el]; exact eu'
    · rw [pairsF_snoc, sumE_append]
      show (sumE crE (pairsF l xs) + ((((l :: xs).getLast (by simp)).1 * x.2 - ((l :: xs).getLast (by simp)).2 * x.1) + 0)) * ((N' : Rat) * ((N * R : Nat) : Rat)) = _
      rw [Rat.intCast_add, Rat.intCast_mul, Rat.intCast_mul, Rat.intCast_sub, Rat.intCast_mul, Rat.intCast_mul, Rat.natCast_mul, Rat.intCast_natCast, Rat.intCast_natCast, ← es, ← ey, ← eu, ← ey', ← eu']
      have key : ∀ (sm g1 g2 a b N' N R : Rat), (sm + ((g1 * b - g2 * a) + 0)) * (N' * (N * R)) = sm * (N * R) * N' + (g1 * N * (b * N') - g2 * N * (a * N')) * R := by
        intros
        grind
      exact key _ _ _ _ _ _ _ _
theorem pairs_take (l : Ray) : ∀ (qs : List Ray) (i : Nat), (pairsF l qs).take i = pairsF l (qs.take i)
  | [], i => by simp [pairsF]
  | q :: r, 0 => rfl
  | q :: r, i + 1 => by
    show (l, q) :: (pairsF q r).take i = (l, q) :: pairsF q (r.take i)
    rw [pairs_take q r i]
theorem lt_pow (i : Nat) : i < 2 ^ i := Nat.lt_two_pow_self
theorem twice_bd {n : Nat} {cs : List Ray} (hb : ∀ c ∈ cs, Rb n c.1 c.2) (i : Nat) (hi : i ≤ cs.length) : Bd (n * (i + 1) + i + 1) (twiceR cs i) := by
  rw [twice_sum cs i hi]
  cases hl : cs.getLast? with
  | none =>
    rw [List.getLast?_eq_none_iff.mp hl]
    show Bd _ (sumE crE (([] : List (Ray × Ray)).take i))
    rw [List.take_nil]
    exact (⟨by decide +kernel, by decide +kernel⟩ : Bd 1 (0 : Rat)).mono (by omega)
  | some l =>
    have e1 : edgesR cs = pairsF l cs := by unfold edgesR; rw [hl]
    rw [e1, pairs_take]
    have ml : l ∈ cs := List.mem_of_getLast? hl
    obtain ⟨T, Y, U, R, N, r0, n0, hR, hN, hY, hU, hT, _, _, es⟩ := sum_bits l (hb l ml) (cs.take i) (fun q hq => hb q (List.mem_of_mem_take hq))
    have ln : (cs.take i).length = i := by rw [List.length_take]; omega
    rw [ln] at hR hT
    have rN : (N : Rat) ≠ 0 := fun z => n0 (by exact_mod_cast z)
    have rR : (R : Rat) ≠ 0 := fun z => r0 (by exact_mod_cast z)
    have eq : sumE crE (pairsF l (cs.take i)) = Rat.divInt T ((N * R : Nat) : Int) := by
      rw [Rat.divInt_eq_div, Rat.intCast_natCast, Rat.natCast_mul, ← es]
      grind
    rw [eq]
    have p1 : (2 : Nat) ^ (n * (i + 1) + i + 1) = 2 ^ i * 2 ^ (n * (i + 1) + 1) := by rw [← Nat.pow_add]; congr 1; omega
    refine Bd.of (by have := Nat.mul_ne_zero n0 r0; omega) ?_ ?_
    · rw [p1]
      refine Nat.lt_of_le_of_lt hT ?_
      exact Nat.mul_lt_mul_of_pos_right (lt_pow i) (Nat.two_pow_pos _)
    · rw [Int.natAbs_natCast]
      have : N * R < 2 ^ n * 2 ^ (n * i) := by
        refine Nat.lt_of_lt_of_le (Nat.mul_lt_mul_of_pos_right hN (Nat.pos_of_ne_zero r0)) (Nat.mul_le_mul_left _ hR)
      rw [← Nat.pow_add] at this
      refine Nat.lt_of_lt_of_le this (pow_le ?_)
      rw [Nat.mul_add, Nat.mul_one]
      omega
end Op
namespace Lib
open PySem L2 Fr Op
def RSize2 : List PyData → PyData → Prop := fun ds d => ∃ cs n, ds = [raysD cs] ∧ (∀ c ∈ cs, RB n c) ∧ n * (cs.length + 1) + cs.length + 1 ≤ 3900 ∧ d = frD (sizeR cs)
def isStp : Pc → Bool
  | .stop _ _ => true
  | _ => false
end Lib
namespace Lib
open PySem L2 Fr Op
theorem size_bits {cs : List Ray} {n : Nat} (h : ∀ c ∈ cs, RB n c) : Bd (n * (cs.length + 1) + cs.length + 3) (sizeR cs) := by
  have a := twice_bd (n := n) (cs := cs) h cs.length (Nat.le_refl _)
  have b : Bd 2 (1 / 2 : Rat) := ⟨by decide +kernel, by decide +kernel⟩
  have c := a.mul b
  have e : twiceR cs cs.length * (1 / 2) = sizeR cs := by unfold sizeR; grind
  rw [e] at c
  exact c.mono (by omega)
theorem cross_bd {n : Nat} {a b : Ray} (ha : RB n a) (hb : RB n b) (h : n ≤ 1950) : Bd 3999 (crossR a b) := by
  have t := twice_bd (n := n) (cs := [b, a]) (fun c hc => by
    simp only [List.mem_cons, List.not_mem_nil, or_false] at hc
    rcases hc with rfl | rfl
    · exact hb
    · exact ha) 1 (by show 1 ≤ 2; decide)
  have e : twiceR [b, a] 1 = crossR a b := by
    show (0 : Rat) + crossR a b = crossR a b
    grind
  rw [e] at t
  exact t.mono (by omega)
end Lib
namespace Lib
open PySem L2 Fr Op
structure LimL (L n M : Nat) (l : Lim) : Prop where
  b : LimB n M l
  u : EdB L (upE l)
  d : EdB L (dnE l)
theorem polyL_cut {L k : Nat} {e : Edg} {ps : List Ray} (h : Poly L k ps) (hb : EdB L e) (hz : e.1 ≠ 0 ∨ e.2.1 ≠ 0) : Poly L (k + 1) (cutS e ps) :=
  ⟨(cutS_ok h.es hz).1, cutS_bits h.es h.pb hb hz, Nat.le_trans (cut_count h.es hz) (Nat.add_le_add_right h.len 1)⟩
theorem polyL_lim {L n M k : Nat} {l : Lim} {ps : List Ray} (h : Poly L k ps) (hl : LimL L n M l) : Poly L (k + 2) (cutL ps l) := polyL_cut (polyL_cut h hl.u hl.b.up.z) hl.d hl.b.dn.z
theorem polyL_all {L n M : Nat} : ∀ (ls : List Lim) {k : Nat} {ps : List Ray}, Poly L k ps → (∀ l ∈ ls, LimL L n M l) → Poly L (k + 2 * ls.length) (fieldF ls ps)
  | [], k, ps, h, _ => h
  | l :: ls, k, ps, h, hl => by
    have h1 := polyL_all ls (polyL_lim h (hl l List.mem_cons_self)) fun x hx => hl x (List.mem_cons_of_mem _ hx)
    show Poly L (k + 2 * (ls.length + 1)) (fieldF ls (cutL ps l))
    rw [show k + 2 * (ls.length + 1) = k + 2 + 2 * ls.length by omega]
    exact h1
structure FieldOkL (L n M : Nat) (ls : List Lim) (x : Box) : Prop where
  ok : x.ok
  bd : x.bd L
  pos : 0 < L
  lim : ∀ l ∈ ls, LimL L n M l
theorem polyL_box {L : Nat} {x : Box} (h : x.ok) (b : x.bd L) (h0 : 0 < L) : Poly L 4 (boxC x) := box_poly h b h0
theorem FieldOkL.poly {L n M : Nat} {ls : List Lim} {x : Box} (h : FieldOkL L n M ls x) : Poly L (4 + 2 * ls.length) (fieldR ls x) := by
  have p := polyL_all ls (polyL_box h.ok h.bd h.pos) h.lim
  exact ⟨rotL_ES p.es, rotL_bits p.pb, by unfold fieldR; rw [rot_len]; exact p.len⟩
theorem limsL_in {L n M : Nat} (r : Ray) : ∀ (ls : List Lim) {k : Nat} {ps : List Ray}, Poly L k ps → (∀ l ∈ ls, LimL L n M l) → (InP (fieldF ls ps) r ↔ InP ps r ∧ ∀ l ∈ ls, l.bad r = false)
  | [], k, ps, h, _ => by
    show InP ps r ↔ _
    simp
  | l :: ls, k, ps, h, hl => by
    have hl1 := hl l List.mem_cons_self
    have := limsL_in r ls (polyL_lim h hl1) (fun x hx => hl x (List.mem_cons_of_mem _ hx))
    show InP (fieldF ls (cutL ps l)) r ↔ _
    rw [this, lim_in h.es hl1.b.z]
    simp [and_assoc]
theorem FieldOkL.in {L n M : Nat} {ls : List Lim} {x : Box} (h : FieldOkL L n M ls x) (r : Ray) : InP (fieldR ls x) r ↔ x.has r ∧ ∀ l ∈ ls, l.bad r = false := by
  unfold fieldR
  rw [rotL_in, limsL_in r ls (polyL_box h.ok h.bd h.pos) h.lim, box_in h.ok]
def spFieldL (K : PySem.W.Frag) : Sp := fun vs H Q _ => ∃ (v u : V) (ps : List Pc) (x : Box) (m L n M : Nat), vs = [v, u] ∧ DV K H v (benchD ps) ∧ DV K H u (boxD x) ∧ Good m ps ∧ 2 + ps.length * (m + 1) + m ≤ 3900 ∧ FieldOkL L n M (lims ps) x ∧ 3 * (2 * ((2 * L + 1) + n) + M + 2) + 2 * (2 * L + 1) + 2 ≤ 4000 ∧ ∀ l rs H', Same H H' → H l = none → H' l = some (.lst rs) → DVs K H' rs ((fieldR (lims ps) x).map rayD) → Q (.ref l) H'
theorem edge_whole {L : Nat} {a b c : Rat} {A B C D : Int} (hD : D ≠ 0) (ha : a * D = A) (hb : b * D = B) (hc : c * D = C) (l : LinB L A B C) : EdB L (a, b, c) := by
  have d0 : (D : Rat) ≠ 0 := fun e => hD (by exact_mod_cast e)
  refine ⟨A, B, C, 1 / (D : Rat), l, ?_, ?_, ?_, ?_⟩
  · grind
  · show a = 1 / (D : Rat) * A
    grind
  · show b = 1 / (D : Rat) * B
    grind
  · show c = 1 / (D : Rat) * C
    grind
end Lib
namespace L2
open PySem PySem.Spec PyProof.Rows PySem.Builtin PySem.Builtin.Str
end L2
namespace L2
open PySem PySem.Spec PyProof.Rows
section
variable {κ : Type} [DecidableEq κ]
def valV (kvs : List (κ × V)) (k : κ) : Option V := (kvs.find? fun kv => decide (kv.1 = k)).map (·.2)
def putK (kvs : List (κ × V)) (k : κ) (v : V) : List (κ × V) :=
  if (kvs.any fun kv => decide (kv.1 = k)) = true then kvs.map (fun kv => if kv.1 = k then (kv.1, v) else kv) else kvs ++ [(k, v)]
theorem valV_pos {p : κ × V} {r : List (κ × V)} {k : κ} (e : p.1 = k) : valV (p :: r) k = some p.2 := by simp [valV, List.find?_cons, e]
theorem valV_neg {p : κ × V} {r : List (κ × V)} {k : κ} (e : ¬ p.1 = k) : valV (p :: r) k = valV r k := by simp [valV, List.find?_cons, e]
theorem valV_any (k : κ) : ∀ kvs : List (κ × V), (kvs.any fun kv => decide (kv.1 = k)) = (valV kvs k).isSome
  | [] => rfl
  | p :: r => by
    rw [List.any_cons]
    by_cases e : p.1 = k
    · simp only [valV_pos e, decide_eq_true e, Bool.true_or, Option.isSome_some]
    · rw [valV_neg e, decide_eq_false e, Bool.false_or]; exact valV_any k r
theorem valV_map (k j : κ) (y : V) : ∀ kvs : List (κ × V), valV (kvs.map fun kv => if kv.1 = k then (kv.1, y) else kv) j = (valV kvs j).map fun x => if j = k then y else x
  | [] => rfl
  | p :: r => by
    have ih := valV_map k j y r
    rw [List.map_cons]
    by_cases h : p.1 = k
    · rw [if_pos h]
      by_cases e : p.1 = j
      · rw [valV_pos (p := (p.1, y)) e, valV_pos e, Option.map_some, if_pos (e.symm.trans h)]
      · rw [valV_neg (p := (p.1, y)) e, valV_neg e, ih]
    · rw [if_neg h]
      by_cases e : p.1 = j
      · rw [valV_pos (p := p) e, valV_pos e, Option.map_some, if_neg (fun z => h (e.trans z))]
      · rw [valV_neg (p := p) e, valV_neg e, ih]
theorem valV_snoc (k j : κ) (y : V) : ∀ kvs : List (κ × V), valV kvs k = none → valV (kvs ++ [(k, y)]) j = if j = k then some y else valV kvs j
  | [], _ => by
    by_cases e : k = j
    · rw [if_pos e.symm]; exact valV_pos (p := (k, y)) e
    · rw [if_neg (fun z => e z.symm)]; exact valV_neg (p := (k, y)) e
  | p :: r, hn => by
    rw [List.cons_append]
    have hk : ¬ p.1 = k := fun z => by rw [valV_pos z] at hn; cases hn
    rw [valV_neg hk] at hn
    have ih := valV_snoc k j y r hn
    by_cases e : p.1 = j
    · rw [valV_pos e, valV_pos e, if_neg (fun z => hk (e.trans z))]
    · rw [valV_neg e, valV_neg e, ih]
theorem valV_put (kvs : List (κ × V)) (k j : κ) (y : V) : valV (putK kvs k y) j = if j = k then some y else valV kvs j := by
  unfold putK
  by_cases a : (kvs.any fun kv => decide (kv.1 = k)) = true
  · rw [if_pos a, valV_map]
    rw [valV_any] at a
    by_cases e : j = k
    · obtain ⟨x, hx⟩ := Option.isSome_iff_exists.mp a
      rw [if_pos e, e, hx, Option.map_some, if_pos rfl]
    · rw [if_neg e]
      cases valV kvs j with
      | none => rfl
      | some x => rw [Option.map_some, if_neg e]
  · rw [if_neg a]
    refine valV_snoc k j y kvs ?_
    rw [valV_any] at a
    cases q : valV kvs k with
    | none => rfl
    | some x => rw [q] at a; exact (a rfl).elim
theorem length_putK (kvs : List (κ × V)) (k : κ) (v : V) : (putK kvs k v).length ≤ kvs.length + 1 := by
  unfold putK
  split
  · rw [List.length_map]; omega
  · rw [List.length_append, List.length_cons, List.length_nil]; omega
theorem RelO.isSome_eq {o : Option V} {u : Option Value} (r : RelO o u) : o.isSome = u.isSome := by
  cases o with
  | none => cases u with
    | none => rfl
    | some _ => exact (show False from r).elim
  | some _ => cases u with
    | none => exact (show False from r).elim
    | some _ => rfl
theorem KV.val {kvs : List (κ × V)} {vs : List (κ × Value)} (r : KV kvs vs) (k : κ) : RelO (valV kvs k) (valueAt vs k) := by
  unfold KV at r
  induction r with
  | nil => exact True.intro
  | @cons p q ps qs h t ih =>
    obtain ⟨h1, h2⟩ := h
    by_cases e : p.1 = k
    · have e' : q.1 = k := h1.symm.trans e
      have b : valueAt (q :: qs) k = some q.2 := by simp [valueAt, List.find?_cons, e']
      rw [valV_pos e, b]; exact h2
    · have e' : ¬ q.1 = k := fun z => e (h1.trans z)
      have b : valueAt (q :: qs) k = valueAt qs k := by simp [valueAt, List.find?_cons, e']
      rw [valV_neg e, b]; exact ih
theorem KV.any {kvs : List (κ × V)} {vs : List (κ × Value)} (r : KV kvs vs) (k : κ) : (kvs.any fun kv => decide (kv.1 = k)) = vs.any fun kv => decide (kv.1 = k) := by
  unfold KV at r
  induction r with
  | nil => rfl
  | cons h t ih => rw [List.any_cons, List.any_cons, ih, h.1]
theorem KV.repl {kvs : List (κ × V)} {vs : List (κ × Value)} (r : KV kvs vs) (k : κ) {y : V} {u : Value} (ry : RelV y u) :
    KV (kvs.map fun kv => if kv.1 = k then (kv.1, y) else kv) (vs.map fun kv => if kv.1 = k then (kv.1, u) else kv) := by
  unfold KV at r ⊢
  induction r with
  | nil => exact .nil
  | @cons p q ps qs h t ih =>
    rw [List.map_cons, List.map_cons]
    refine .cons ?_ ih
    obtain ⟨h1, h2⟩ := h
    by_cases e : p.1 = k
    · rw [if_pos e, if_pos (h1.symm.trans e)]; exact ⟨h1, ry⟩
    · rw [if_neg e, if_neg (fun z => e (h1.trans z))]; exact ⟨h1, h2⟩
theorem KV.put {kvs : List (κ × V)} {vs : List (κ × Value)} (r : KV kvs vs) (k : κ) {y : V} {u : Value} (ry : RelV y u) : KV (putK kvs k y) (stored vs k u) := by
  unfold putK stored
  rw [r.any k]
  by_cases e : (vs.any fun kv => decide (kv.1 = k)) = true
  · rw [if_pos e, if_pos e]; exact r.repl k ry
  · rw [if_neg e, if_neg e]; exact Paired.snoc r ⟨rfl, ry⟩
theorem KV.length {kvs : List (κ × V)} {vs : List (κ × Value)} (r : KV kvs vs) : kvs.length = vs.length := Paired.length r
end
theorem kV_is {P : Program} {w : World} {k : Key} {u : Value} (r : RelV (kV k) u) : (mixKind P w).is k u = true := by
  cases k with
  | inl i => obtain ⟨t, e⟩ := (show ∃ t, u = Value.int i t from r); subst e; exact mixKind_int P w i t
  | inr x => obtain ⟨t, e⟩ := (show ∃ t, u = Value.str x t from r); subst e; exact mixKind_str P w x t
theorem items_are {P : Program} {w : World} : ∀ {ks : List Key} {us : List Value}, Vals (ks.map kV) us → ItemsAre (mixKind P w) ks us
  | [], _, r => by rw [List.map_nil] at r; cases r; exact .nil
  | k :: ks, _, r => by
    rw [List.map_cons] at r
    cases r with
    | cons h t => exact .cons (kV_is h) (items_are t)
abbrev KT (H : Hp) : List (List Key × V) → List (List Key × Addr × Value) → Prop := Paired fun p q => p.1 = q.1 ∧ H q.2.1 = some (.tup (p.1.map kV)) ∧ RelV p.2 q.2.2
theorem KT.val {H : Hp} {kvs : List (List Key × V)} {xs : List (List Key × Addr × Value)} (r : KT H kvs xs) (k : List Key) : RelO (valV kvs k) ((atKey xs k).map (·.2)) := by
  induction r with
  | nil => exact True.intro
  | @cons p q ps qs h t ih =>
    obtain ⟨h1, _, h2⟩ := h
    by_cases e : p.1 = k
    · have e' : q.1 = k := h1.symm.trans e
      have b : atKey (q :: qs) k = some q.2 := by simp [atKey, List.find?_cons, e']
      rw [valV_pos e, b]; exact h2
    · have e' : ¬ q.1 = k := fun z => e (h1.trans z)
      have b : atKey (q :: qs) k = atKey qs k := by simp [atKey, List.find?_cons, e']
      rw [valV_neg e, b]; exact ih
theorem KT.repl {H : Hp} {kvs : List (List Key × V)} {xs : List (List Key × Addr × Value)} (r : KT H kvs xs) (k : List Key) {y : V} {u : Value} (ry : RelV y u) :
    KT H (kvs.map fun kv => if kv.1 = k then (kv.1, y) else kv) (xs.map (putAt k u)) := by
  induction r with
  | nil => exact .nil
  | @cons p q ps qs h t ih =>
    rw [List.map_cons, List.map_cons]
    refine .cons ?_ ih
    obtain ⟨h1, h2, h3⟩ := h
    unfold putAt
    by_cases e : p.1 = k
    · rw [if_pos e, if_pos (h1.symm.trans e)]; exact ⟨h1, h2, ry⟩
    · rw [if_neg e, if_neg (fun z => e (h1.trans z))]; exact ⟨h1, h2, h3⟩
theorem KT.put {H : Hp} {kvs : List (List Key × V)} {xs : List (List Key × Addr × Value)} (r : KT H kvs xs) (k : List Key) {b : Addr} {y : V} {u : Value} (hb : H b = some (.tup (k.map kV))) (ry : RelV y u) :
    KT H (putK kvs k y) (storedH xs k b u) := by
  have e : (kvs.any fun kv => decide (kv.1 = k)) = (atKey xs k).isSome := by
    rw [valV_any, (r.val k).isSome_eq, Option.isSome_map]
  unfold putK storedH
  rw [e]
  by_cases q : (atKey xs k).isSome = true
  · rw [if_pos q, if_pos q]; exact r.repl k ry
  · rw [if_neg q, if_neg q]; exact Paired.snoc r ⟨rfl, hb, ry⟩
theorem KT.keeps {H H' : Hp} {kvs : List (List Key × V)} {xs : List (List Key × Addr × Value)} (r : KT H kvs xs) (ht : ∀ b ys, H b = some (.tup ys) → H' b = some (.tup ys)) : KT H' kvs xs :=
  Paired.mapP r fun _ _ z => ⟨z.1, ht _ _ z.2.1, z.2.2⟩
section
variable {P : Program} {w : World} {H : Hp} {h : Heap} {a : Addr}
theorem rd_of {u : HO} (ok : HOk P w H h) (e : Rd H a u) : ObjOk P w H h a u := e.ok ok
theorem dk_rd {kvs : List (Key × V)} (ok : HOk P w H h) (e : Rd H a (.dK kvs)) : kvs.length ≤ sizeLine ∧ (a == sysModules) = false ∧ ∃ vs, KV kvs vs ∧ h.DictOf (mixKind P w) a vs :=
  show ObjOk P w H h a (.dK kvs) from rd_of ok e
theorem dk_of {kvs : List (Key × V)} (ok : HOk P w H h) (e : H a = some (.dK kvs)) : kvs.length ≤ sizeLine ∧ (a == sysModules) = false ∧ ∃ vs, KV kvs vs ∧ h.DictOf (mixKind P w) a vs := dk_rd ok (.inl e)
theorem key_of {ks : List Key} (ok : HOk P w H h) (e : H a = some (.tup (ks.map kV))) : (tupleKind (mixKind P w)).is h ks a := by
  obtain ⟨_, its, r, o, h1, h2, n, h3⟩ := (show ObjOk P w H h a (.tup (ks.map kV)) from ok a _ e)
  exact ⟨o, its.toArray, n, h1, h2, h3, by simpa using items_are r⟩
theorem dt_rd {kvs : List (List Key × V)} (ok : HOk P w H h) (e : Rd H a (.dT kvs)) : kvs.length ≤ sizeLine ∧ (a == sysModules) = false ∧
    ∃ xs, KT H kvs xs ∧ h.DictOfH (tupleKind (mixKind P w)) a xs := by
  obtain ⟨z, y, xs, r, o, es, ep, h1, h2, h3, h4, h5⟩ := (show ObjOk P w H h a (.dT kvs) from rd_of ok e)
  refine ⟨z, y, xs, r, o, es, ep, h1, h2, h3, h4, fun x hx => ?_, h5⟩
  have all : ∀ {l : List (List Key × V)} {m : List (List Key × Addr × Value)}, KT H l m → ∀ x ∈ m, (tupleKind (mixKind P w)).is h x.1 x.2.1 := by
    intro l m q
    induction q with
    | nil => intro x hx; exact nomatch hx
    | @cons p q ps qs hq t ih =>
      intro x hx
      rcases List.mem_cons.mp hx with e | hx
      · subst e
        exact key_of ok (by rw [← hq.1]; exact hq.2.1)
      · exact ih x hx
  exact all r x hx
theorem dt_of {kvs : List (List Key × V)} (ok : HOk P w H h) (e : H a = some (.dT kvs)) : kvs.length ≤ sizeLine ∧ (a == sysModules) = false ∧
    ∃ xs, KT H kvs xs ∧ h.DictOfH (tupleKind (mixKind P w)) a xs := dt_rd ok (.inl e)
end
def DGet (H : Hp) (a : Addr) (y : V) (r : Option V) : Prop :=
  (∃ kvs k, Rd H a (.dK kvs) ∧ y = kV k ∧ r = valV kvs k) ∨ ∃ kvs k b, Rd H a (.dT kvs) ∧ y = .ref b ∧ H b = some (.tup (k.map kV)) ∧ r = valV kvs k
def DPut (H : Hp) (a : Addr) (y v : V) (H' : Hp) : Prop :=
  (∃ kvs k, H a = some (.dK kvs) ∧ y = kV k ∧ kvs.length < sizeLine ∧ H' = upd H a (.dK (putK kvs k v))) ∨
  ∃ kvs k b, H a = some (.dT kvs) ∧ y = .ref b ∧ H b = some (.tup (k.map kV)) ∧ kvs.length < sizeLine ∧ H' = upd H a (.dT (putK kvs k v))
theorem DGet.k {H : Hp} {a : Addr} {kvs : List (Key × V)} {k : Key} (e : H a = some (.dK kvs)) : DGet H a (kV k) (valV kvs k) := .inl ⟨kvs, k, .inl e, rfl, rfl⟩
theorem DPut.k {H : Hp} {a : Addr} {kvs : List (Key × V)} {k : Key} {v : V} (e : H a = some (.dK kvs)) (hl : kvs.length < sizeLine) : DPut H a (kV k) v (upd H a (.dK (putK kvs k v))) := .inl ⟨kvs, k, e, rfl, hl, rfl⟩
section
variable {X : Cx} {pins : List (Addr × Obj)} {σ : St} {H : Hp} {s : Shared} {a : Addr} {y v : V} {u r : Value} {o : Option V} {A : Around} {E : Value → Shared → Prop}
theorem Inv.big (I : Inv X pins σ H s) : sysModules < s.heap.objs.size := by
  have h : mainGlobals < s.heap.objs.size := (I.mod.glob.keeps I.bk).lt
  exact Nat.lt_trans (by decide) h
theorem d_getItem {Q : Value → Shared → Prop} (hu : A.units + 1 < cLine) (I : Inv X pins σ H s) (g : DGet H a y (some v)) (ry : RelV y u) (h : ∀ w' s', Inv X pins σ H s' → RelV v w' → Q w' s') :
    wpAny (model X.prog X.w) A (getItem (.ref a) u) Q E s := by
  rcases g with ⟨kvs, k, e, ey, l⟩ | ⟨kvs, k, b, e, ey, eb, l⟩
  · subst ey
    obtain ⟨z, hd, vs, rel, dd⟩ := dk_rd I.hok e
    obtain ⟨w', hw, rw'⟩ := RelO.some_of (v := v) (o := valueAt vs k) (by rw [l]; exact rel.val k)
    exact wpAny_getItem_of (kV_is ry) dd.mapOf hw (h w' _ (I.tok _) rw')
  · subst ey
    cases (show u = Value.ref b from ry)
    obtain ⟨z, hd, xs, rel, dd⟩ := dt_rd I.hok e
    obtain ⟨w', hw, rw'⟩ := RelO.some_of (v := v) (o := (atKey xs k).map (·.2)) (by rw [l]; exact rel.val k)
    obtain ⟨p, hp, hp2⟩ := Option.map_eq_some_iff.mp hw
    refine wpAny_getItem_heap (tupleKind_room_in1 hu) (key_of I.hok eb) dd hp ?_
    rw [hp2]
    exact h w' _ (I.tok _) rw'
theorem d_in {Q : Value → Shared → Prop} (hu : A.units + 1 < cLine) (I : Inv X pins σ H s) (g : DGet H a y o) (ry : RelV y u) (h : ∀ s', Inv X pins σ H s' → Q (.bool o.isSome) s') :
    wpAny (model X.prog X.w) A (compareOp .In u (.ref a)) Q E s := by
  rcases g with ⟨kvs, k, e, ey, l⟩ | ⟨kvs, k, b, e, ey, eb, l⟩
  · subst ey
    obtain ⟨z, hd, vs, rel, dd⟩ := dk_rd I.hok e
    refine wpAny_in_of (kV_is ry) hd dd.mapOf ?_
    rw [← (rel.val k).isSome_eq, ← l]
    exact h _ (I.tok _)
  · subst ey
    cases (show u = Value.ref b from ry)
    obtain ⟨z, hd, xs, rel, dd⟩ := dt_rd I.hok e
    refine wpAny_in_heap (tupleKind_room_in1 hu) (key_of I.hok eb) hd dd ?_
    have q := (rel.val k).isSome_eq
    rw [Option.isSome_map] at q
    rw [← q, ← l]
    exact h _ (I.tok _)
theorem d_write {h' : Heap} {t' : Nat} {ob : HO} (I : Inv X pins σ H s) (mu : Mut (H a)) (hs : Heap.SameBut a s.heap h') (he : ∃ q, h'.get? a = some q) (new : ObjOk X.prog X.w (upd H a ob) h' a ob) :
    Inv X pins σ (upd H a ob) { s with heap := h', toks := t' } :=
  I.write (x := a) (e := a) mu (.inl rfl) (fun b q hb z => (hs.2 b hb).trans z) he new
theorem dk_new {P : Program} {w : World} {H' : Hp} {h' : Heap} {kvs : List (Key × V)} {vs : List (Key × Value)} (z : kvs.length ≤ sizeLine) (hd : (a == sysModules) = false) (rel : KV kvs vs) (dd : h'.DictOf (mixKind P w) a vs) :
    ObjOk P w H' h' a (.dK kvs) := ⟨z, hd, vs, rel, dd⟩
theorem d_setItem {H' : Hp} {Q : Unit → Shared → Prop} (hu : A.units + 1 < cLine) (I : Inv X pins σ H s) (g : DPut H a y v H') (ry : RelV y u) (rv : RelV v r) (h : ∀ s', Inv X pins σ H' s' → Q () s') :
    wpAny (model X.prog X.w) A (setItem (.ref a) u r) Q E s := by
  rcases g with ⟨kvs, k, e, ey, l, eH⟩ | ⟨kvs, k, b, e, ey, eb, l, eH⟩
  · subst ey eH
    obtain ⟨z, hd, vs, rel, dd⟩ := dk_of I.hok e
    have hz : vs.length ≤ sizeLine := by rw [← rel.length]; exact z
    have hl : (putK kvs k v).length ≤ sizeLine := by have := length_putK kvs k v; omega
    refine wpAny_setItem_pairs (hsz := hz) (kV_is ry) dd fun h' dd' hs => h _ ?_
    have he : ∃ q, h'.get? a = some q := let ⟨q, _, _, hq, _⟩ := dd'; ⟨q, hq⟩
    exact d_write I (by rw [e]; exact True.intro) hs he (dk_new hl hd (rel.put k rv) dd')
  · subst ey eH
    cases (show u = Value.ref b from ry)
    obtain ⟨z, hd, xs, rel, dd⟩ := dt_of I.hok e
    have hz : xs.length ≤ sizeLine := by rw [← Paired.length rel]; exact z
    have hl : (putK kvs k v).length ≤ sizeLine := by have := length_putK kvs k v; omega
    refine wpAny_setItem_heap (hsz := hz) (tupleKind_room_in1 hu) (key_of I.hok eb) dd fun h' dd' hs => h _ ?_
    obtain ⟨q, es, ep, hq, h2, h3, h4, _, h5⟩ := dd'
    refine d_write I (by rw [e]; exact True.intro) hs ⟨q, hq⟩ ⟨hl, hd, _, (rel.put k eb rv).keeps fun c ys ec => ?_, q, es, ep, hq, h2, h3, h4, h5⟩
    rw [upd_ne (ne_of ec e (fun z => nomatch z))]
    exact ec
end
def NoSl (i : Expr) : Prop := ∀ ov iv, subscripted i false ov iv = operate [ov, iv] (getItem ov iv)
theorem subD_of {prog : Program} {w : World} {A : Around} {E : Value → Shared → Prop} {s : Shared} {env : Env} {value slice : Expr} {pos : Pos} {T id : String} {Q : Value → Shared → Prop}
    (hl : typeLookup (.type T) "__getitem__" = pure (some (.builtin id))) (hs : NoSl slice)
    (h : wpAny (model prog w) A (eval value env) (fun o s₁ => wpAny (model prog w) A (eval slice env) (fun i s₂ => s₂.TypeIs o T ∧ wpAny (model prog w) A (getItem o i) Q E s₂) E s₁) E s) :
    wpAny (model prog w) A (eval (.Subscript value slice pos) env) Q E s := by
  refine Subscript_ (wpAny_mono h (fun o s₁ h₁ => wpAny_mono h₁ (fun i s₂ h₂ => ?_) fun _ _ x => x) fun _ _ x => x)
  obtain ⟨hT, h₂⟩ := h₂
  unfold subscriptTail
  refine wpAny_bind ?_
  rw [getitemInPython_of_ne hT.not_modules]
  refine wpAny_bind (wpAny_specialOf hT hl ?_)
  have fin : wpAny (model prog w) A (subscripted slice false o i) (fun r s₃ => wpAny (model prog w) A (letTemporaryGo value o r >>= fun _ => pure r) Q E s₃) E s₂ := by
    rw [hs o i]
    exact wpAny_operating (wpAny_mono h₂ (fun r s₃ h₃ => wpAny_bind (wpAny_letTemporaryGo (wpAny_pure h₃))) fun _ _ x => x)
  first
    | exact wpAny_pure (wpAny_bind fin)
    | exact wpAny_bind (wpAny_pure (wpAny_bind fin))
    | exact wpAny_bind fin
theorem dict_typeIs {X : Cx} {pins : List (Addr × Obj)} {σ : St} {H : Hp} {s : Shared} {a : Addr} {y : V} {o : Option V} (I : Inv X pins σ H s) (g : DGet H a y o) : s.TypeIs (.ref a) "dict" := by
  rcases g with ⟨kvs, k, e, _, _⟩ | ⟨kvs, k, b, e, _, _, _⟩
  · obtain ⟨_, _, vs, _, dd⟩ := dk_rd I.hok e
    exact dd.typeIs
  · obtain ⟨_, _, xs, _, dd⟩ := dt_rd I.hok e
    exact dd.typeIs
def tDGet (td ty : TE) : TE := fun σ H Q => td σ H fun x H1 => ty σ H1 fun y H2 => ∃ a v, x = .ref a ∧ DGet H2 a y (some v) ∧ Q v H2
def tDIn (ty td : TE) : TE := fun σ H Q => ty σ H fun y H1 => td σ H1 fun x H2 => ∃ a o, x = .ref a ∧ DGet H2 a y o ∧ Q (.bl o.isSome) H2
def sDPut (td ty tv : TE) : TS := fun D σ H => tv σ H fun v H1 => td σ H1 fun x H2 => ty σ H2 fun y H3 => ∃ a H4, x = .ref a ∧ DPut H3 a y v H4 ∧ D.nx σ H4
section
variable {X : Cx} {o i e value : Expr} {pos pos' tpos : Pos} {td ty tv : TE}
theorem pe_dget (hu : X.A.units + 1 < cLine) (ho : PE X o td) (hi : PE X i ty) (hs : NoSl i) : PE X (.Subscript o i pos) (tDGet td ty) := by
  intro pins s σ H Q I h
  refine subD_of PySem.F.slot_dict_getitem.lookup hs (thn (ho pins s σ H _ I h) fun u s1 ⟨x, H1, I1, rx, q1⟩ => thn (hi pins s1 σ H1 _ I1 q1) fun iv s2 ⟨y, H2, I2, ry, a, v, ex, g, q2⟩ => ?_)
  subst ex
  obtain rfl : u = Value.ref a := rx
  exact ⟨dict_typeIs I2 g, d_getItem hu I2 g ry fun w' s3 I3 rw' => ⟨v, H2, I3, rw', q2⟩⟩
theorem pc_din (hu : X.A.units + 1 < cLine) (hi : PE X i ty) (ho : PE X o td) : PC X .In i o (tDIn ty td) := by
  intro pins s σ H Q I h
  refine thn (hi pins s σ H _ I h) fun iv s1 ⟨y, H1, I1, ry, q1⟩ => thn (ho pins s1 σ H1 _ I1 q1) fun u s2 ⟨x, H2, I2, rx, a, ov, ex, g, q2⟩ => ?_
  subst ex
  obtain rfl : u = Value.ref a := rx
  exact d_in hu I2 g ry fun s3 I3 => ⟨.bl ov.isSome, H2, I3, rfl, q2⟩
theorem ps_dput (hu : X.A.units + 1 < cLine) (ho : PE X o td) (hi : PE X i ty) (hv : PE X value tv) (hs : swapsWith value (some (.Subscript o i pos')) pos.line X.env = pure false) :
    PS X (.Assign [.Subscript o i pos'] value pos) (sDPut td ty tv) := by
  intro pins s σ H D I h
  refine wpAny_Assign_Subscript (thn (hv pins s σ H _ I h) fun r s1 ⟨v, H1, I1, rv, q1⟩ => thn (ho pins s1 σ H1 _ I1 q1) fun u s2 ⟨x, H2, I2, rx, q2⟩ => thn (hi pins s2 σ H2 _ I2 q2) fun iv s3 ⟨y, H3, I3, ry, a, H4, ex, g, q3⟩ => ?_) hs
  subst ex
  obtain rfl : u = Value.ref a := rx
  exact d_setItem hu I3 g ry rv fun s4 I4 => ⟨σ, H4, I4, q3⟩
end
theorem dk_empty {P : Program} {w : World} {H : Hp} (h : Heap) (hb : sysModules < h.objs.size) : ObjOk P w H (h.push { cls := .type "dict", data := .dict #[] }) h.objs.size (.dK []) :=
  ⟨Nat.zero_le _, beq_eq_false_iff_ne.mpr (Ne.symm (Nat.ne_of_lt hb)), [], .nil, Heap.DictOf.new h⟩
def tDNewK : TE := fun _ H Q => ∀ p, H p = none → Q (.ref p) (upd H p (.dK []))
section
variable {X : Cx} {pos : Pos}
theorem pe_dnewK : PE X (.Dict [] [] pos) tDNewK := fun pins s σ H Q I h =>
  wpAny_Dict_empty ⟨.ref s.heap.objs.size, _, I.laid (a := s.heap.objs.size) (o := .dK []) (t' := s.toks) (fun _ _ q => Heap.get?_push_of_some _ q) (Nat.le_refl _) (dk_empty s.heap I.big), rfl, h _ (I.hok.fresh (Nat.le_refl _))⟩
end
section
variable {X : Cx} {pins : List (Addr × Obj)} {σ : St} {H : Hp} {s : Shared} {a : Addr} {kvs : List (Key × V)} {A : Around} {E : Value → Shared → Prop}
theorem d_copyOf {Q : Value → Shared → Prop} (I : Inv X pins σ H s) (e : Rd H a (.dK kvs)) (h : ∀ p s', H p = none → Inv X pins σ (upd H p (.dK kvs)) s' → Q (.ref p) s') : wpAny (model X.prog X.w) A (call (.type "dict") [.ref a]) Q E s := by
  obtain ⟨z, hd, vs, rel, dd⟩ := dk_rd I.hok e
  refine kt_call_dict hd dd (by rw [← rel.length]; exact z) fun h' dd' hs => ?_
  refine h _ _ (I.hok.fresh (Nat.le_refl _)) (I.laid (a := s.heap.objs.size) (o := .dK kvs) (t' := s.toks) (fun b q hq => ?_) (Nat.le_refl _) (dk_new z (beq_eq_false_iff_ne.mpr (Ne.symm (Nat.ne_of_lt I.big))) rel dd'))
  exact (hs.2 b (Nat.ne_of_lt (Heap.lt_size hq))).trans (Heap.get?_push_of_some _ hq)
end
end L2
namespace L2
open PySem PySem.Spec PyProof.Rows
end L2
namespace PySem
open Sem (wp)
end PySem
namespace L2
open PySem PySem.Spec PyProof.Rows PySem.Builtin
theorem bt_dict : bootBuiltins "dict" = some (.type "dict") := by decide +kernel
theorem RoomB.units1 {c : Bool} {k : Nat} {A : Around} (h : RoomB c k A) : A.units + 1 < cLine := Nat.lt_of_le_of_lt (by omega) h.units
end L2
namespace L2
open PySem PySem.Spec PyProof.Rows
section
variable {X : Cx}
theorem call_dictC : CallR X (.type "dict") (fun xs H Q => ∃ (a : Addr) (kvs : List (Key × V)), xs = [.ref a] ∧ H a = some (.dK kvs) ∧ ∀ p, H p = none → Q (.ref p) (upd H p (.dK kvs))) := by
  intro pins s σ H xs us Q I r h
  obtain ⟨a, kvs, rfl, ha, q⟩ := h
  obtain ⟨u, rfl, ru⟩ := vals1 r
  cases ru
  exact d_copyOf I (.inl ha) fun p s' hp I' => ⟨.ref p, _, I', rfl, q p hp⟩
end
end L2
namespace Lib
open PySem L2 Fr Op
structure Bx48 (x : Box) : Prop where
  ab : x.a < x.b
  cd : x.c < x.d
  a : Bd 7 x.a
  w : Bd 7 (x.b - x.a)
  c : Bd 7 x.c
  s : Bd 7 (x.d - x.c)
  bd : x.bd 15
theorem Bx48.ok {x : Box} (h : Bx48 x) : x.ok := ⟨Rat.le_of_lt h.ab, Rat.le_of_lt h.cd⟩
def spBox48 (K : PySem.W.Frag) : Sp := fun vs H Q _ => ∃ z : Int, vs = [.int z] ∧ ∀ v H' (x : Box), Same H H' → DV K H' v (boxD x) → Bx48 x → Q v H'
def Pl48 (p : Pc) : Prop := p.ok ∧ p.bd 7 ∧ isStp p = false
def spPcs48 (K : PySem.W.Frag) : Sp := fun vs H Q _ => ∃ (a : Addr) (ns : List Int), vs = [.ref a] ∧ SqL K H a (ns.map V.int) ∧ ns.length ≤ 3 ∧ ∀ l H' xs (ps : List Pc), Same H H' → H l = none → H' l = some (.lst xs) → DVs K H' xs (ps.map pcD) → ps.length = ns.length → (∀ p ∈ ps, Pl48 p) → Q (.ref l) H'
def spHgt48 (K : PySem.W.Frag) : Sp := fun vs H Q _ => ∃ (v rv : V) (ps : List Pc) (r : Ray) (n : Nat), vs = [v, rv] ∧ DV K H v (benchD ps) ∧ DV K H rv (rayD r) ∧ (∀ p ∈ ps, Pl48 p) ∧ ps.length ≤ 3 ∧ RB n r ∧ n ≤ 3000 ∧ ∀ w H', Same H H' → DV K H' w (frD (bend ps r).1) → Q w H'
theorem div_pb {t b : Int} (ht : 0 < t) (hb : 0 < b) : 0 < Rat.divInt t b := by
  have h := div_nn (Int.le_of_lt ht) (Int.le_of_lt hb)
  have h0 : ((0 : Int) : Rat) < (t : Rat) := Rat.intCast_lt_intCast.mpr ht
  have h1 : ((0 : Int) : Rat) < (b : Rat) := Rat.intCast_lt_intCast.mpr hb
  rw [Rat.divInt_eq_div] at h ⊢
  have e : (t : Rat) / (b : Rat) * (b : Rat) = t := by grind
  have n : (t : Rat) / (b : Rat) ≠ 0 := fun e' => by
    rw [e'] at e
    grind
  grind
abbrev St48 := Nat → Option (Rat × Rat)
def DcA (K : PySem.W.Frag) (H : Hp) (kvs : List (Key × V)) (S : St48) : Prop := ∀ k : Nat, match S k with | none => valV kvs (.inl (k : Int)) = none | some q => ∃ v, valV kvs (.inl (k : Int)) = some v ∧ DV K H v (pcD (.stop q.1 q.2))
theorem DcA.keep {K : PySem.W.Frag} {H H' : Hp} {kvs : List (Key × V)} {S : St48} (h : DcA K H kvs S) (s : Same H H') : DcA K H' kvs S := fun k => by
  have := h k
  cases e : S k with
  | none => rw [e] at this; exact this
  | some q =>
    rw [e] at this
    obtain ⟨v, h1, h2⟩ := this
    exact ⟨v, h1, h2.keep s⟩
def setS (S : St48) (k : Nat) (q : Rat × Rat) : St48 := fun j => if j = k then some q else S j
theorem DcA.put {K : PySem.W.Frag} {H : Hp} {kvs : List (Key × V)} {S : St48} (h : DcA K H kvs S) {k : Nat} {v : V} {q : Rat × Rat} (hv : DV K H v (pcD (.stop q.1 q.2))) : DcA K H (putK kvs (.inl (k : Int)) v) (setS S k q) := fun j => by
  unfold setS
  rw [valV_put]
  by_cases e : j = k
  · subst e
    rw [if_pos rfl, if_pos rfl]
    exact ⟨v, rfl, hv⟩
  · have e' : ¬ (Sum.inl (j : Int) : Key) = .inl (k : Int) := fun x => e (by have := Sum.inl.inj x; omega)
    rw [if_neg e, if_neg e']
    exact h j
def withAt (S : St48) (k : Nat) (p : Pc) : List Pc := p :: (match S k with | none => [] | some q => [.stop q.1 q.2])
def withB (S : St48) : Nat → List Pc → List Pc
  | _, [] => []
  | k, p :: ps => withAt S k p ++ withB S (k + 1) ps
theorem with_snoc (S : St48) : ∀ (ps : List Pc) (k : Nat) (p : Pc), withB S k (ps ++ [p]) = withB S k ps ++ withAt S (k + ps.length) p
  | [], k, p => by show withAt S k p ++ [] = [] ++ withAt S (k + 0) p; simp
  | a :: ps, k, p => by
    show withAt S k a ++ withB S (k + 1) (ps ++ [p]) = (withAt S k a ++ withB S (k + 1) ps) ++ _
    rw [with_snoc S ps (k + 1) p, List.append_assoc, List.length_cons, show k + 1 + ps.length = k + (ps.length + 1) by omega]
def spWith48 (K : PySem.W.Frag) : Sp := fun vs H Q _ => ∃ (lp ds : Addr) (xs : List V) (ps : List Pc) (kvs : List (Key × V)) (S : St48), vs = [.ref lp, .ref ds] ∧ H lp = some (.lst xs) ∧ DVs K H xs (ps.map pcD) ∧ ps.length ≤ 3 ∧ H ds = some (.dK kvs) ∧ DcA K H kvs S ∧ ∀ l H' ys, Same H H' → H l = none → H' l = some (.lst ys) → DVs K H' ys ((withB S 0 ps).map pcD) → Q (.ref l) H'
theorem with_len (S : St48) : ∀ (ps : List Pc) (k : Nat), (withB S k ps).length ≤ 2 * ps.length
  | [], _ => Nat.le_refl _
  | p :: ps, k => by
    show (withAt S k p ++ withB S (k + 1) ps).length ≤ _
    have h1 := with_len S ps (k + 1)
    have h2 : (withAt S k p).length ≤ 2 := by
      unfold withAt
      cases S k <;> simp
    rw [List.length_append, List.length_cons]
    omega
end Lib
namespace Lib
open PySem L2 Fr Op
theorem lims_with (S : St48) : ∀ (ps : List Pc) (k i : Nat) (h s : Ray), (∀ p ∈ ps, isStp p = false) → ∀ l ∈ limsF i (withB S k ps) h s, ∃ (j : Nat) (q : Rat × Rat), j < ps.length ∧ S (k + j) = some q ∧ l.a = (bend (ps.take (j + 1)) h).1 ∧ l.b = (bend (ps.take (j + 1)) s).1 ∧ l.lo = q.1 ∧ l.hi = q.2
  | [], k, i, h, s, _ => fun l hl => nomatch hl
  | p :: ps, k, i, h, s, ns => fun l hl => by
    have np := ns p List.mem_cons_self
    have ih := fun i h s => lims_with S ps (k + 1) i h s fun q hq => ns q (List.mem_cons_of_mem _ hq)
    have back : ∀ {i' : Nat}, l ∈ limsF i' (withB S (k + 1) ps) (p.bent h) (p.bent s) → ∃ (j : Nat) (q : Rat × Rat), j < (p :: ps).length ∧ S (k + j) = some q ∧ l.a = (bend ((p :: ps).take (j + 1)) h).1 ∧ l.b = (bend ((p :: ps).take (j + 1)) s).1 ∧ l.lo = q.1 ∧ l.hi = q.2 := fun {i'} hm => by
      obtain ⟨j, q, h1, h2, h3, h4, h5⟩ := ih i' _ _ l hm
      refine ⟨j + 1, q, by rw [List.length_cons]; omega, by rw [← h2]; congr 1; omega, ?_, ?_, h5⟩
      · rw [h3]; rfl
      · rw [h4]; rfl
    have e : limsF i (withB S k (p :: ps)) h s = limsF (i + 1) ((match S k with | none => [] | some q => [.stop q.1 q.2]) ++ withB S (k + 1) ps) (p.bent h) (p.bent s) := by
      show limsF i (p :: ((match S k with | none => [] | some q => [.stop q.1 q.2]) ++ withB S (k + 1) ps)) h s = _
      cases p with
      | gap d => rfl
      | glass d => rfl
      | stop a b => exact nomatch np
    rw [e] at hl
    cases es : S k with
    | none =>
      rw [es] at hl
      exact back hl
    | some q =>
      rw [es] at hl
      have hl : l ∈ limsF (i + 1) (.stop q.1 q.2 :: withB S (k + 1) ps) (p.bent h) (p.bent s) := hl
      rcases List.mem_append.mp hl with h1 | h1
      · have h1 := List.mem_singleton.mp h1
        subst h1
        exact ⟨0, q, by rw [List.length_cons]; omega, es, rfl, rfl, rfl, rfl⟩
      · exact back h1
structure StL (L M : Nat) (t : Tab) (q : Rat × Rat) : Prop where
  u : EdB L (t.a, t.b, 0 - q.1)
  d : EdB L (0 - t.a, 0 - t.b, q.2)
  lo : Bd M q.1
  hi : Bd M q.2
theorem limL_with {L M : Nat} {S : St48} {ps : List Pc} (pl : ∀ p ∈ ps, Pl48 p) (l3 : ps.length ≤ 3) (hS : ∀ j q, j < ps.length → S j = some q → StL L M (tabOf (ps.take (j + 1))) q) : ∀ l ∈ lims (withB S 0 ps), LimL L 26 M l := fun l hl => by
  obtain ⟨j, q, hj, es, ea, eb, elo, ehi⟩ := lims_with S ps 0 0 e1 e2 (fun p hp => (pl p hp).2.2) l hl
  rw [Nat.zero_add] at es
  have st := hS j q hj es
  have tb := tab_bd (m := 7) (ps := ps.take (j + 1)) fun p hp => (pl p (List.mem_of_mem_take hp)).2.1
  have tl : (ps.take (j + 1)).length ≤ 3 := by rw [List.length_take]; omega
  have tb : Tb 26 (tabOf (ps.take (j + 1))) := Lib.Tb.mono tb (by omega)
  have dt := det_tab (ps.take (j + 1))
  have ea : l.a = (tabOf (ps.take (j + 1))).a := ea
  have eb : l.b = (tabOf (ps.take (j + 1))).b := eb
  generalize tabOf (ps.take (j + 1)) = t at st tb dt ea eb
  refine ⟨⟨by rw [ea]; exact tb.a, by rw [eb]; exact tb.b, by rw [elo]; exact st.lo, by rw [ehi]; exact st.hi, fun z1 z2 => ?_⟩, ?_, ?_⟩
  · rw [ea] at z1
    rw [eb] at z2
    have dt : t.a * t.d - t.b * t.c = 1 := dt
    rw [z1, z2] at dt
    grind
  · show EdB L (l.a, l.b, 0 - l.lo)
    rw [ea, eb, elo]
    exact st.u
  · show EdB L (0 - l.a, 0 - l.b, l.hi)
    rw [ea, eb, ehi]
    exact st.d
theorem edge_up {L : Nat} {a b v : Rat} {A B C q m : Int} (hq : q ≠ 0) (hm : m ≠ 0) (ha : a * q = A) (hb : b * q = B) (hv : v * (q * m : Int) = C) (l : LinB L (A * m) (B * m) (-C)) : EdB L (a, b, 0 - v) := by
  refine edge_whole (D := q * m) (Int.mul_ne_zero hq hm) ?_ ?_ ?_ l
  · rw [Rat.intCast_mul, Rat.intCast_mul, ← ha]; grind
  · rw [Rat.intCast_mul, Rat.intCast_mul, ← hb]; grind
  · rw [Rat.intCast_neg, ← hv]; grind
theorem edge_dn {L : Nat} {a b v : Rat} {A B C q m : Int} (hq : q ≠ 0) (hm : m ≠ 0) (ha : a * q = A) (hb : b * q = B) (hv : v * (q * m : Int) = C) (l : LinB L (-(A * m)) (-(B * m)) C) : EdB L (0 - a, 0 - b, v) := by
  refine edge_whole (D := q * m) (Int.mul_ne_zero hq hm) ?_ ?_ ?_ l
  · rw [Rat.intCast_neg, Rat.intCast_mul, Rat.intCast_mul, ← ha]; grind
  · rw [Rat.intCast_neg, Rat.intCast_mul, Rat.intCast_mul, ← hb]; grind
  · exact hv
end Lib
namespace Lib
open PySem L2 Fr Op
theorem lift_bits {x : Int} {m n : Nat} (h : x.natAbs < 2 ^ m) (le : m ≤ n) : x.natAbs < 2 ^ n := Nat.lt_of_lt_of_le h (pow_le le)
theorem neg_bits {x : Int} {m : Nat} (h : x.natAbs < 2 ^ m) : (-x).natAbs < 2 ^ m := by rw [Int.natAbs_neg]; exact h
theorem line_of {n : Nat} {t : Tab} {r : Ray} {o : Rat} (ht : Tq 28 t) (hr : RB n r) (b : Bd 7 o) : EdB (n + 37) (t.a, t.b, 0 - (t.a * r.1 + t.b * r.2 - o)) ∧ EdB (n + 37) (0 - t.a, 0 - t.b, t.a * r.1 + t.b * r.2 - o) ∧ Bd (n + 37) (t.a * r.1 + t.b * r.2 - o) := by
  obtain ⟨N, A, B, _, _, n0, hN, hA, hB, _, _, ea, eb, _, _⟩ := ht.ex
  obtain ⟨Y, U, D, d0, hD, hY, hU, ey, eu⟩ := hr.ex
  have hDi : ((D : Int)).natAbs < 2 ^ n := by rw [Int.natAbs_natCast]; exact hD
  have od : ((o.den : Int)).natAbs < 2 ^ 7 := by rw [Int.natAbs_natCast]; exact b.d
  have on : o.num.natAbs < 2 ^ 7 := b.n
  have oz : ((o.den : Int)) ≠ 0 := by have := o.den_nz; omega
  have dz : ((D : Int)) ≠ 0 := by omega
  have hm : ((D : Int) * (o.den : Int)) ≠ 0 := Int.mul_ne_zero dz oz
  have mb : ((D : Int) * (o.den : Int)).natAbs < 2 ^ (n + 7) := abs_mul hDi od
  have lA : (A * ((D : Int) * (o.den : Int))).natAbs < 2 ^ (n + 37) := lift_bits (abs_mul hA mb) (by omega)
  have lB : (B * ((D : Int) * (o.den : Int))).natAbs < 2 ^ (n + 37) := lift_bits (abs_mul hB mb) (by omega)
  have c1 : ((A * Y + B * U) * (o.den : Int)).natAbs < 2 ^ (n + 36) := lift_bits (abs_mul (abs_add (abs_mul hA hY) (abs_mul hB hU)) od) (by omega)
  have c2 : (o.num * (N * (D : Int))).natAbs < 2 ^ (n + 36) := lift_bits (abs_mul on (abs_mul hN hDi)) (by omega)
  have lC : ((A * Y + B * U) * (o.den : Int) - o.num * (N * (D : Int))).natAbs < 2 ^ (n + 37) := lift_bits (abs_sub c1 c2) (by omega)
  have y1 : r.1 * (D : Int) = (Y : Rat) := by
    have : ((D : Int) : Rat) ≠ 0 := fun e => dz (by exact_mod_cast e)
    rw [ey, Rat.divInt_eq_div]
    grind
  have u1 : r.2 * (D : Int) = (U : Rat) := by
    have : ((D : Int) : Rat) ≠ 0 := fun e => dz (by exact_mod_cast e)
    rw [eu, Rat.divInt_eq_div]
    grind
  have o1 : o * (o.den : Int) = (o.num : Rat) := by
    have h : ((o.den : Int) : Rat) ≠ 0 := fun e => oz (by exact_mod_cast e)
    have e := Rat.num_divInt_den o
    rw [Rat.divInt_eq_div] at e
    generalize hN' : ((o.num : Int) : Rat) = nn at e ⊢
    generalize ((o.den : Int) : Rat) = dd at e h ⊢
    clear hN'
    rw [← e]
    grind
  have ev : (t.a * r.1 + t.b * r.2 - o) * ((N * ((D : Int) * (o.den : Int)) : Int) : Rat) = (((A * Y + B * U) * (o.den : Int) - o.num * (N * (D : Int)) : Int) : Rat) := by
    rw [Rat.intCast_mul, Rat.intCast_mul, Rat.intCast_sub, Rat.intCast_mul, Rat.intCast_add, Rat.intCast_mul, Rat.intCast_mul, Rat.intCast_mul, Rat.intCast_mul, ← ea, ← eb, ← y1, ← u1, ← o1]
    generalize ((D : Int) : Rat) = d
    generalize ((o.den : Int) : Rat) = e
    generalize ((N : Int) : Rat) = q
    grind
  refine ⟨edge_up n0 hm ea eb ev ⟨lA, lB, neg_bits lC⟩, edge_dn n0 hm ea eb ev ⟨neg_bits lA, neg_bits lB, lC⟩, ?_⟩
  have bz : (N * ((D : Int) * (o.den : Int))) ≠ 0 := Int.mul_ne_zero n0 hm
  have e2 : t.a * r.1 + t.b * r.2 - o = Rat.divInt ((A * Y + B * U) * (o.den : Int) - o.num * (N * (D : Int))) (N * ((D : Int) * (o.den : Int))) := by
    have h : ((N * ((D : Int) * (o.den : Int)) : Int) : Rat) ≠ 0 := fun e => bz (by exact_mod_cast e)
    rw [Rat.divInt_eq_div, ← ev]
    grind
  rw [e2]
  exact Bd.of bz lC (lift_bits (abs_mul hN mb) (by omega))
end Lib
namespace Lib
open PySem L2 Fr Op
def okAt (h s : Ray) (q : Rat × Rat) (r : Ray) : Prop := q.1 ≤ h.1 * r.1 + s.1 * r.2 ∧ h.1 * r.1 + s.1 * r.2 ≤ q.2
theorem bad_ok {i : Nat} {h s r : Ray} {q : Rat × Rat} : Lim.bad ⟨i, h.1, s.1, q.1, q.2⟩ r = false ↔ okAt h s q r := by
  unfold Lim.bad okAt
  simp only [Bool.or_eq_false_iff, decide_eq_false_iff_not, Rat.not_lt]
theorem free_with (S : St48) (r : Ray) : ∀ (ps : List Pc) (k i : Nat) (h s : Ray), (∀ p ∈ ps, isStp p = false) → ((∀ l ∈ limsF i (withB S k ps) h s, l.bad r = false) ↔ ∀ (j : Nat) (q : Rat × Rat), j < ps.length → S (k + j) = some q → okAt (bend (ps.take (j + 1)) h) (bend (ps.take (j + 1)) s) q r)
  | [], k, i, h, s, _ => ⟨fun _ j q hj => by simp at hj, fun _ l hl => nomatch hl⟩
  | p :: ps, k, i, h, s, ns => by
    have np := ns p List.mem_cons_self
    have ih := fun i => free_with S r ps (k + 1) i (p.bent h) (p.bent s) fun q hq => ns q (List.mem_cons_of_mem _ hq)
    have e : limsF i (withB S k (p :: ps)) h s = limsF (i + 1) ((match S k with | none => [] | some q => [.stop q.1 q.2]) ++ withB S (k + 1) ps) (p.bent h) (p.bent s) := by
      show limsF i (p :: ((match S k with | none => [] | some q => [.stop q.1 q.2]) ++ withB S (k + 1) ps)) h s = _
      cases p with
      | gap d => rfl
      | glass d => rfl
      | stop a b => exact nomatch np
    have tail : (∀ (j : Nat) (q : Rat × Rat), j < (p :: ps).length → S (k + j) = some q → okAt (bend ((p :: ps).take (j + 1)) h) (bend ((p :: ps).take (j + 1)) s) q r) ↔ (∀ q, S k = some q → okAt (p.bent h) (p.bent s) q r) ∧ ∀ (j : Nat) (q : Rat × Rat), j < ps.length → S (k + 1 + j) = some q → okAt (bend (ps.take (j + 1)) (p.bent h)) (bend (ps.take (j + 1)) (p.bent s)) q r := by
      refine ⟨fun H => ⟨fun q hq => H 0 q (by simp) hq, fun j q hj hq => H (j + 1) q (by rw [List.length_cons]; omega) (by rw [← hq]; congr 1; omega)⟩, fun H j q hj hq => ?_⟩
      cases j with
      | zero => exact H.1 q hq
      | succ j => exact H.2 j q (by rw [List.length_cons] at hj; omega) (by rw [← hq]; congr 1; omega)
    rw [e, tail]
    cases es : S k with
    | none =>
      refine Iff.trans (ih (i + 1)) ⟨fun H => ⟨(fun q hq => nomatch hq), H⟩, fun H => H.2⟩
    | some q =>
      show (∀ l ∈ limsF (i + 1) (.stop q.1 q.2 :: withB S (k + 1) ps) (p.bent h) (p.bent s), l.bad r = false) ↔ _
      refine ⟨fun H => ⟨fun q' hq => ?_, (ih (i + 1 + 1)).mp fun l hl => H l (List.mem_append.mpr (.inr hl))⟩, fun H l hl => ?_⟩
      · cases hq
        exact bad_ok.mp (H _ (List.mem_append.mpr (.inl List.mem_cons_self)))
      · rcases List.mem_append.mp hl with h1 | h1
        · rw [List.mem_singleton.mp h1]
          exact bad_ok.mpr (H.1 q rfl)
        · exact (ih (i + 1 + 1)).mpr H.2 l h1
theorem beyond_empty {ps : List Ray} (h : ES ps) (no : ∀ r, ¬ InP ps r) : ps = [] := by
  cases ps with
  | nil => rfl
  | cons p ps => exact absurd (in_self h List.mem_cons_self) (no p)
theorem in_most {ps : List Ray} (h : ES ps) {x : Ray} (hx : InP ps x) {a b T : Rat} (hp : ∀ p ∈ ps, a * p.1 + b * p.2 ≤ T) : a * x.1 + b * x.2 ≤ T := by
  have := in_aff h hx (f := fun r => -a * r.1 + -b * r.2 + T) ⟨-a, -b, T, fun _ => rfl⟩ fun p hp' => by
    have := hp p hp'
    show 0 ≤ -a * p.1 + -b * p.2 + T
    grind
  have : 0 ≤ -a * x.1 + -b * x.2 + T := this
  grind
theorem in_more {L n M L' n' M' : Nat} {S : St48} {ps : List Pc} {x : Box} {k : Nat} {q : Rat × Rat} (ns : ∀ p ∈ ps, isStp p = false) (hk : k < ps.length) (hS : S k = none) (h : FieldOkL L n M (lims (withB S 0 ps)) x) (h' : FieldOkL L' n' M' (lims (withB (setS S k q) 0 ps)) x) (r : Ray) :
    InP (fieldR (lims (withB (setS S k q) 0 ps)) x) r ↔ InP (fieldR (lims (withB S 0 ps)) x) r ∧ okAt (bend (ps.take (k + 1)) e1) (bend (ps.take (k + 1)) e2) q r := by
  rw [h'.in, h.in]
  have f1 := free_with (setS S k q) r ps 0 0 e1 e2 ns
  have f2 := free_with S r ps 0 0 e1 e2 ns
  unfold lims
  rw [f1, f2]
  refine ⟨fun ⟨a, b⟩ => ⟨⟨a, fun j q' hj hq => ?_⟩, ?_⟩, fun ⟨⟨a, b⟩, c⟩ => ⟨a, fun j q' hj hq => ?_⟩⟩
  · refine b j q' hj ?_
    rw [Nat.zero_add] at hq ⊢
    unfold setS
    rw [if_neg fun e => by rw [e, hS] at hq; cases hq]
    exact hq
  · refine b k q hk ?_
    rw [Nat.zero_add]
    unfold setS
    rw [if_pos rfl]
  · rw [Nat.zero_add] at hq
    unfold setS at hq
    by_cases e : j = k
    · rw [if_pos e] at hq
      cases hq
      rw [e]
      exact c
    · rw [if_neg e] at hq
      exact b j q' hj (by rw [Nat.zero_add]; exact hq)
theorem shut_beyond {L n M L' n' M' : Nat} {S : St48} {ps : List Pc} {x : Box} {k : Nat} {q : Rat × Rat} {T : Rat} (ns : ∀ p ∈ ps, isStp p = false) (hk : k < ps.length) (hS : S k = none) (h : FieldOkL L n M (lims (withB S 0 ps)) x) (h' : FieldOkL L' n' M' (lims (withB (setS S k q) 0 ps)) x)
    (hT : ∀ c ∈ fieldR (lims (withB S 0 ps)) x, (bend (ps.take (k + 1)) c).1 ≤ T) (lt : T < q.1) : fieldR (lims (withB (setS S k q) 0 ps)) x = [] := by
  refine beyond_empty h'.poly.es fun r hr => ?_
  obtain ⟨h1, h2⟩ := (in_more ns hk hS h h' r).mp hr
  have e : ∀ c : Ray, (bend (ps.take (k + 1)) c).1 = (bend (ps.take (k + 1)) e1).1 * c.1 + (bend (ps.take (k + 1)) e2).1 * c.2 := fun c => by
    rw [bend_tab]
    rfl
  have := in_most h.poly.es h1 (a := (bend (ps.take (k + 1)) e1).1) (b := (bend (ps.take (k + 1)) e2).1) (T := T) fun c hc => by rw [← e]; exact hT c hc
  have h3 := h2.1
  grind
end Lib
namespace Lib
open PySem L2 Fr Op
theorem flat_size {ps : List Ray} (h : ES ps) {e : Edg} (he : e.1 ≠ 0 ∨ e.2.1 ≠ 0) (hall : ∀ p ∈ ps, roomR e p = 0) : sizeR ps = 0 := by
  by_cases h3 : 3 ≤ ps.length
  · exfalso
    have m0 : atR ps 0 ∈ ps := atR_in (by omega)
    have m1 : atR ps 1 ∈ ps := atR_in (by omega)
    have m2 : atR ps 2 ∈ ps := atR_in (by omega)
    exact h.no_line h3 he m0 m1 m2 (fun e => by have := atR_inj h.nd (by omega) (by omega) e; omega) (fun e => by have := atR_inj h.nd (by omega) (by omega) e; omega) (fun e => by have := atR_inj h.nd (by omega) (by omega) e; omega) (hall _ m0) (hall _ m1) (hall _ m2)
  · exact size_two (by omega)
theorem cut_size {e : Edg} {ps : List Ray} (h : ES ps) (he : e.1 ≠ 0 ∨ e.2.1 ≠ 0) : sizeR (cutS e ps) ≤ sizeR ps := by
  have h1 := size_cut h he
  have hn : (negE e).1 ≠ 0 ∨ (negE e).2.1 ≠ 0 := by
    rcases he with c | c
    · left; show -e.1 ≠ 0; grind
    · right; show -e.2.1 ≠ 0; grind
  have h2 := size_nn (cutS_ok h hn).1
  grind
theorem more_is {L n M L' n' M' : Nat} {S : St48} {ps : List Pc} {x : Box} {k : Nat} {q : Rat × Rat} (ns : ∀ p ∈ ps, isStp p = false) (hk : k < ps.length) (hS : S k = none) (h : FieldOkL L n M (lims (withB S 0 ps)) x) (h' : FieldOkL L' n' M' (lims (withB (setS S k q) 0 ps)) x)
    (hz : (bend (ps.take (k + 1)) e1).1 = 0 → (bend (ps.take (k + 1)) e2).1 ≠ 0) : fieldR (lims (withB (setS S k q) 0 ps)) x = rotL (cutL (fieldR (lims (withB S 0 ps)) x) ⟨0, (bend (ps.take (k + 1)) e1).1, (bend (ps.take (k + 1)) e2).1, q.1, q.2⟩) := by
  have es := h.poly.es
  have z1 : (bend (ps.take (k + 1)) e1).1 ≠ 0 ∨ (bend (ps.take (k + 1)) e2).1 ≠ 0 := by
    by_cases c : (bend (ps.take (k + 1)) e1).1 = 0
    · exact .inr (hz c)
    · exact .inl c
  have z2 : (0 - (bend (ps.take (k + 1)) e1).1) ≠ 0 ∨ (0 - (bend (ps.take (k + 1)) e2).1) ≠ 0 := by
    rcases z1 with c | c
    · left; grind
    · right; grind
  have ec : ES (cutL (fieldR (lims (withB S 0 ps)) x) ⟨0, (bend (ps.take (k + 1)) e1).1, (bend (ps.take (k + 1)) e2).1, q.1, q.2⟩) := (cutS_ok (cutS_ok es z1).1 z2).1
  refine one_list h'.poly.es (rotL_ES ec) (rotL_lf _) (rotL_lf _) fun r => ?_
  rw [in_more ns hk hS h h' r, rotL_in, lim_in es hz, bad_ok]
theorem more_size {L n M L' n' M' : Nat} {S : St48} {ps : List Pc} {x : Box} {k : Nat} {q : Rat × Rat} (ns : ∀ p ∈ ps, isStp p = false) (hk : k < ps.length) (hS : S k = none) (h : FieldOkL L n M (lims (withB S 0 ps)) x) (h' : FieldOkL L' n' M' (lims (withB (setS S k q) 0 ps)) x)
    (hz : (bend (ps.take (k + 1)) e1).1 = 0 → (bend (ps.take (k + 1)) e2).1 ≠ 0) : sizeR (fieldR (lims (withB (setS S k q) 0 ps)) x) ≤ sizeR (fieldR (lims (withB S 0 ps)) x) := by
  have es := h.poly.es
  have z1 : (bend (ps.take (k + 1)) e1).1 ≠ 0 ∨ (bend (ps.take (k + 1)) e2).1 ≠ 0 := by
    by_cases c : (bend (ps.take (k + 1)) e1).1 = 0
    · exact .inr (hz c)
    · exact .inl c
  have z2 : (0 - (bend (ps.take (k + 1)) e1).1) ≠ 0 ∨ (0 - (bend (ps.take (k + 1)) e2).1) ≠ 0 := by
    rcases z1 with c | c
    · left; grind
    · right; grind
  rw [more_is ns hk hS h h' hz, size_rotL]
  exact Rat.le_trans (cut_size (cutS_ok es z1).1 z2) (cut_size es z1)
end Lib
namespace Lib
open PySem L2 Fr Op
theorem rb_two {n m : Nat} {y u : Rat} (hy : Bd n y) (hu : Bd m u) : Rb (n + m) y u := by
  refine ⟨y.num * (u.den : Int), u.num * (y.den : Int), y.den * u.den, Nat.mul_ne_zero y.den_nz u.den_nz, ?_, ?_, ?_, ?_, ?_⟩
  · rw [Nat.pow_add]; exact Nat.mul_lt_mul'' hy.d hu.d
  · exact abs_mul hy.n (by rw [Int.natAbs_natCast]; exact hu.d)
  · rw [Nat.add_comm]; exact abs_mul hu.n (by rw [Int.natAbs_natCast]; exact hy.d)
  · rw [Int.natCast_mul, Rat.divInt_mul_right (by have := u.den_nz; omega), Rat.num_divInt_den]
  · rw [Int.natCast_mul, Int.mul_comm (y.den : Int), Rat.divInt_mul_right (by have := y.den_nz; omega), Rat.num_divInt_den]
theorem ray48 {x : Box} (h : Bx48 x) {s1 s2 : Rat} (b1 : Bd 3 s1) (b2 : Bd 3 s2) (p1 : 0 ≤ s1) (q1 : s1 ≤ 1) (p2 : 0 ≤ s2) (q2 : s2 ≤ 1) :
    RB 36 (x.a + s1 * (x.b - x.a), x.c + s2 * (x.d - x.c)) ∧ x.has (x.a + s1 * (x.b - x.a), x.c + s2 * (x.d - x.c)) := by
  refine ⟨?_, ?_⟩
  · have y : Bd 18 (x.a + s1 * (x.b - x.a)) := (h.a.add (b1.mul h.w)).mono (by decide)
    have u : Bd 18 (x.c + s2 * (x.d - x.c)) := (h.c.add (b2.mul h.s)).mono (by decide)
    exact rb_two y u
  · have w1 : 0 ≤ x.b - x.a := by have := h.ab; grind
    have w2 : 0 ≤ x.d - x.c := by have := h.cd; grind
    have m1 := Rat.mul_nonneg p1 w1
    have m2 := Rat.mul_nonneg (show 0 ≤ 1 - s1 by grind) w1
    have m3 := Rat.mul_nonneg p2 w2
    have m4 := Rat.mul_nonneg (show 0 ≤ 1 - s2 by grind) w2
    unfold Box.has
    refine ⟨?_, ?_, ?_, ?_⟩ <;> dsimp only <;> grind
end Lib
namespace Lib
open PySem L2 Fr Op
structure Ps48 (ps : List Pc) (x : Box) (r : Ray) : Prop where
  pl : ∀ p ∈ ps, Pl48 p
  l3 : ps.length ≤ 3
  bx : Bx48 x
  rb : RB 36 r
  has : x.has r
theorem hgt_at (ps : List Pc) (c : Ray) : (bend ps c).1 = (tabOf ps).a * c.1 + (tabOf ps).b * c.2 := by rw [bend_tab]; rfl
theorem _root_.Op.EdB.mono {L M : Nat} {e : Edg} (h : EdB L e) (le : L ≤ M) : EdB M e := by
  obtain ⟨A, B, C, k, l, r⟩ := h.ex
  exact ⟨A, B, C, k, ⟨Nat.lt_of_lt_of_le l.a (pow_le le), Nat.lt_of_lt_of_le l.b (pow_le le), Nat.lt_of_lt_of_le l.c (pow_le le)⟩, r⟩
theorem StL.mono {L M : Nat} {t : Tab} {q : Rat × Rat} (h : StL L L t q) (le : L ≤ M) : StL M M t q := ⟨h.u.mono le, h.d.mono le, h.lo.mono le, h.hi.mono le⟩
section
variable {ps : List Pc} {x : Box} {r : Ray} {S : St48} {L : Nat}
theorem Ps48.ns (h : Ps48 ps x r) : ∀ p ∈ ps, isStp p = false := fun p hp => (h.pl p hp).2.2
theorem Ps48.tq (h : Ps48 ps x r) (j : Nat) : Tq 28 (tabOf (ps.take (j + 1))) :=
  (tq_tab (m := 7) fun p hp => (h.pl p (List.mem_of_mem_take hp)).2.1).mono (by
    have h1 : (ps.take (j + 1)).length ≤ 3 := by rw [List.length_take]; have := h.l3; omega
    have h2 : (ps.take (j + 1)).length * (7 + 2) ≤ 3 * 9 := Nat.mul_le_mul h1 (Nat.le_refl _)
    omega)
def Sok (L : Nat) (ps : List Pc) (S : St48) : Prop := ∀ j q, j < ps.length → S j = some q → StL L L (tabOf (ps.take (j + 1))) q ∧ q.1 ≤ q.2
def InS48 (ps : List Pc) (S : St48) (r : Ray) : Prop := ∀ j q, j < ps.length → S j = some q → q.1 ≤ (bend (ps.take (j + 1)) r).1 ∧ (bend (ps.take (j + 1)) r).1 ≤ q.2
theorem Sok.mono {M : Nat} (h : Sok L ps S) (le : L ≤ M) : Sok M ps S := fun j q hj e => ⟨(h j q hj e).1.mono le, (h j q hj e).2⟩
theorem Sok.set (h : Sok L ps S) {k : Nat} {q : Rat × Rat} (hq : StL L L (tabOf (ps.take (k + 1))) q) (le : q.1 ≤ q.2) : Sok L ps (setS S k q) := fun j q' hj e => by
  unfold setS at e
  by_cases c : j = k
  · rw [if_pos c] at e
    cases e
    rw [c]
    exact ⟨hq, le⟩
  · rw [if_neg c] at e
    exact h j q' hj e
theorem InS48.set (h : InS48 ps S r) {k : Nat} {q : Rat × Rat} (h1 : q.1 ≤ (bend (ps.take (k + 1)) r).1) (h2 : (bend (ps.take (k + 1)) r).1 ≤ q.2) : InS48 ps (setS S k q) r := fun j q' hj e => by
  unfold setS at e
  by_cases c : j = k
  · rw [if_pos c] at e
    cases e
    rw [c]
    exact ⟨h1, h2⟩
  · rw [if_neg c] at e
    exact h j q' hj e
theorem Ps48.fo (h : Ps48 ps x r) (hL : 15 ≤ L) (s : Sok L ps S) : FieldOkL L 26 L (lims (withB S 0 ps)) x :=
  ⟨h.bx.ok, ⟨h.bx.bd.a.mono hL, h.bx.bd.b.mono hL, h.bx.bd.c.mono hL, h.bx.bd.d.mono hL⟩, by omega, limL_with h.pl h.l3 fun j q hj e => (s j q hj e).1⟩
theorem mem_with (S : St48) {p : Pc} : ∀ (ps : List Pc) (k : Nat), p ∈ withB S k ps → p ∈ ps ∨ ∃ j q, j < ps.length ∧ S (k + j) = some q ∧ p = .stop q.1 q.2
  | [], k, h => nomatch h
  | a :: ps, k, h => by
    have h : p ∈ withAt S k a ++ withB S (k + 1) ps := h
    rcases List.mem_append.mp h with h | h
    · unfold withAt at h
      rcases List.mem_cons.mp h with rfl | h
      · exact .inl List.mem_cons_self
      · cases e : S k with
        | none => rw [e] at h; exact nomatch h
        | some q =>
          rw [e] at h
          exact .inr ⟨0, q, by rw [List.length_cons]; omega, e, List.mem_singleton.mp h⟩
    · rcases mem_with S ps (k + 1) h with h | ⟨j, q, hj, e, hp⟩
      · exact .inl (List.mem_cons_of_mem _ h)
      · exact .inr ⟨j + 1, q, by rw [List.length_cons]; omega, by rw [← e]; congr 1; omega, hp⟩
theorem Ps48.len6 (h : Ps48 ps x r) : (withB S 0 ps).length ≤ 6 := by have h1 := with_len S ps 0; have := h.l3; omega
theorem Ps48.good (h : Ps48 ps x r) (hL : 7 ≤ L) (s : Sok L ps S) : Good L (withB S 0 ps) := by
  have l6 := h.len6 (S := S)
  refine ⟨by omega, fun p hp => ?_, fun p hp => ?_⟩
  · rcases mem_with S ps 0 hp with hp | ⟨j, q, hj, e, rfl⟩
    · exact (h.pl p hp).1
    · rw [Nat.zero_add] at e
      exact Rat.not_lt.mpr (s j q hj e).2
  · rcases mem_with S ps 0 hp with hp | ⟨j, q, hj, e, rfl⟩
    · exact Pc.bd.mono hL (h.pl p hp).2.1
    · rw [Nat.zero_add] at e
      exact ⟨(s j q hj e).1.lo, (s j q hj e).1.hi⟩
theorem Ps48.in (h : Ps48 ps x r) (hL : 15 ≤ L) (s : Sok L ps S) (i : InS48 ps S r) : InP (fieldR (lims (withB S 0 ps)) x) r := by
  rw [(h.fo hL s).in]
  refine ⟨h.has, ?_⟩
  have f1 := free_with S r ps 0 0 e1 e2 h.ns
  unfold lims
  rw [f1]
  intro j q hj e
  rw [Nat.zero_add] at e
  obtain ⟨a, b⟩ := i j q hj e
  rw [hgt_at] at a b
  exact ⟨a, b⟩
theorem Ps48.round (h : Ps48 ps x r) (k : Nat) {o1 o2 : Rat} (b1 : Bd 7 o1) (b2 : Bd 7 o2) : StL 73 73 (tabOf (ps.take (k + 1))) ((bend (ps.take (k + 1)) r).1 - o1, (bend (ps.take (k + 1)) r).1 + o2) := by
  obtain ⟨x1, _, x3⟩ := line_of (h.tq k) h.rb b1
  obtain ⟨_, y2, y3⟩ := line_of (h.tq k) h.rb (bd_neg b2)
  rw [← hgt_at] at x1 x3 y2 y3
  rw [show (bend (ps.take (k + 1)) r).1 - -o2 = (bend (ps.take (k + 1)) r).1 + o2 by grind] at y2 y3
  exact ⟨x1, y2, x3, y3⟩
theorem Ps48.beyond (h : Ps48 ps x r) (k : Nat) {c : Ray} (rc : RB 147 c) {o1 o2 : Rat} (b1 : Bd 7 o1) (b2 : Bd 7 o2) : StL 184 184 (tabOf (ps.take (k + 1))) ((bend (ps.take (k + 1)) c).1 + o1, (bend (ps.take (k + 1)) c).1 + o2) := by
  obtain ⟨x1, _, x3⟩ := line_of (h.tq k) rc (bd_neg b1)
  obtain ⟨_, y2, y3⟩ := line_of (h.tq k) rc (bd_neg b2)
  rw [← hgt_at] at x1 x3 y2 y3
  rw [show (bend (ps.take (k + 1)) c).1 - -o1 = (bend (ps.take (k + 1)) c).1 + o1 by grind] at x1 x3
  rw [show (bend (ps.take (k + 1)) c).1 - -o2 = (bend (ps.take (k + 1)) c).1 + o2 by grind] at y2 y3
  exact ⟨x1, y2, x3, y3⟩
theorem no_flat (ps : List Pc) : (bend ps e1).1 = 0 → (bend ps e2).1 ≠ 0 := fun z1 z2 => by
  have dt : (tabOf ps).a * (tabOf ps).d - (tabOf ps).b * (tabOf ps).c = 1 := det_tab ps
  have e1' : (tabOf ps).a = 0 := z1
  have e2' : (tabOf ps).b = 0 := z2
  rw [e1', e2'] at dt
  grind
theorem Ps48.flat (h : Ps48 ps x r) (s : Sok 73 ps S) {k : Nat} {y : Rat} (hk : k < ps.length) (hS : S k = none) (s' : Sok 73 ps (setS S k (y, y))) : sizeR (fieldR (lims (withB (setS S k (y, y)) 0 ps)) x) = 0 := by
  have f := h.fo (by decide) s
  have f' := h.fo (by decide) s'
  refine flat_size f'.poly.es (e := ((bend (ps.take (k + 1)) e1).1, (bend (ps.take (k + 1)) e2).1, -y)) ?_ fun p hp => ?_
  · by_cases c : (bend (ps.take (k + 1)) e1).1 = 0
    · exact .inr (no_flat _ c)
    · exact .inl c
  · have := ((in_more h.ns hk hS f f' p).mp (in_self f'.poly.es hp)).2
    obtain ⟨a, b⟩ := this
    dsimp only at a b
    unfold roomR
    dsimp only
    grind
theorem Ps48.smaller (h : Ps48 ps x r) (s : Sok 73 ps S) {k : Nat} {q : Rat × Rat} (hk : k < ps.length) (hS : S k = none) (s' : Sok 73 ps (setS S k q)) : sizeR (fieldR (lims (withB (setS S k q) 0 ps)) x) ≤ sizeR (fieldR (lims (withB S 0 ps)) x) :=
  more_size h.ns hk hS (h.fo (by decide) s) (h.fo (by decide) s') (no_flat _)
theorem Ps48.inner (h : Ps48 ps x r) (s : Sok 73 ps S) {k : Nat} {q : Rat × Rat} (hk : k < ps.length) (hS : S k = none) (s' : Sok 73 ps (setS S k q)) {c : Ray} (hc : InP (fieldR (lims (withB (setS S k q) 0 ps)) x) c) : InP (fieldR (lims (withB S 0 ps)) x) c :=
  ((in_more h.ns hk hS (h.fo (by decide) s) (h.fo (by decide) s') c).mp hc).1
theorem Ps48.stays (h : Ps48 ps x r) (s : Sok 73 ps S) {k : Nat} {q : Rat × Rat} (hk : k < ps.length) (hS : S k = none) (s' : Sok 73 ps (setS S k q)) {c : Ray} (hc : c ∈ fieldR (lims (withB S 0 ps)) x) (hw : (walk (withB (setS S k q) 0 ps) c).2 = none) : c ∈ fieldR (lims (withB (setS S k q) 0 ps)) x := by
  have f := h.fo (by decide) s
  have f' := h.fo (by decide) s'
  refine corner_stays f.poly.es f'.poly.es (fun y hy => h.inner s hk hS s' hy) hc ?_
  rw [f'.in]
  refine ⟨((f.in c).mp (in_self f.poly.es hc)).1, ?_⟩
  rw [← first_none, first_walk]
  exact hw
theorem Ps48.empty (h : Ps48 ps x r) (s : Sok 73 ps S) {k : Nat} {q : Rat × Rat} {T : Rat} (hk : k < ps.length) (hS : S k = none) (s' : Sok 184 ps (setS S k q)) (hT : ∀ c ∈ fieldR (lims (withB S 0 ps)) x, (bend (ps.take (k + 1)) c).1 ≤ T) (lt : T < q.1) : fieldR (lims (withB (setS S k q) 0 ps)) x = [] :=
  shut_beyond h.ns hk hS (h.fo (by decide) s) (h.fo (by decide) s') hT lt
theorem Ps48.n10 (h : Ps48 ps x r) (hL : 15 ≤ L) (s : Sok L ps S) : (fieldR (lims (withB S 0 ps)) x).length ≤ 16 := by
  have h1 := (h.fo hL s).poly.len
  have h2 := lims_len (withB S 0 ps) 0 e1 e2
  have h3 := h.len6 (S := S)
  unfold lims at h1 ⊢
  omega
theorem set_twice (S : St48) (k : Nat) (q q' : Rat × Rat) : setS (setS S k q) k q' = setS S k q' := by
  funext j
  unfold setS
  by_cases c : j = k
  · rw [if_pos c, if_pos c]
  · rw [if_neg c, if_neg c, if_neg c]
end
theorem SD.tD {d : Addr} {H H' : Hp} {kvs : List (Key × V)} (s : SD d H H') (h : H d = some (.dK kvs)) : SameT H H' := fun b ys => ⟨fun e => s b _ (fun z => by rw [z, h] at e; cases e) e, fun o e => s b _ (fun z => by rw [z, h] at e; cases e) e⟩
def spShut48 (K : PySem.W.Frag) : Sp := fun vs H Q _ => ∃ (lp ds lc : Addr) (bv rv : V) (k : Nat) (xs rs : List V) (ps : List Pc) (x : Box) (r : Ray) (kvs : List (Key × V)) (S : St48), vs = [.ref lp, .ref ds, bv, rv, .ref lc, .int (k : Int)] ∧ H lp = some (.lst xs) ∧ DVs K H xs (ps.map pcD) ∧ H ds = some (.dK kvs) ∧ kvs.length ≤ 3 ∧ DcA K H kvs S ∧ DV K H bv (boxD x) ∧ DV K H rv (rayD r) ∧ H lc = some (.lst rs) ∧ DVs K H rs ((fieldR (lims (withB S 0 ps)) x).map rayD) ∧ Ps48 ps x r ∧ Sok 73 ps S ∧ InS48 ps S r ∧ k < ps.length ∧ S k = none ∧ ∀ H', Same H H' → Q (.bl true) H'
structure At48 (K : PySem.W.Frag) (H : Hp) (ds la : Addr) (ps : List Pc) (x : Box) (r : Ray) (S : St48) (j : Nat) (c : Nat) : Prop where
  d : ∃ kvs, H ds = some (.dK kvs) ∧ kvs.length ≤ j ∧ DcA K H kvs S
  a : ∃ rs, H la = some (.lst rs) ∧ DVs K H rs ((fieldR (lims (withB S 0 ps)) x).map rayD)
  s : Sok 73 ps S
  i : InS48 ps S r
  v : ∀ i, i < ps.length → S i ≠ none → ∃ j', j' < j ∧ i = (j' + c) % ps.length
theorem turn_new {n j c : Nat} (hj : j < n) : ¬ ∃ j', j' < j ∧ (j + c) % n = (j' + c) % n := fun ⟨j', h1, h2⟩ => by
  have n0 : 0 < n := by omega
  have e1 := Nat.div_add_mod (j + c) n
  have e2 := Nat.div_add_mod (j' + c) n
  have h3 : j - j' = n * ((j + c) / n) - n * ((j' + c) / n) := by omega
  rw [← Nat.mul_sub] at h3
  rcases Nat.eq_zero_or_pos ((j + c) / n - (j' + c) / n) with z | z
  · rw [z] at h3; omega
  · have : n * 1 ≤ n * ((j + c) / n - (j' + c) / n) := Nat.mul_le_mul (Nat.le_refl _) z
    omega
theorem by6 {α : Type} {p : List α → Prop} (h : ∀ a b c d e f, p [a, b, c, d, e, f]) : ∀ us : List α, us.length = 6 → p us
  | [_, _, _, _, _, _], _ => h _ _ _ _ _ _
theorem same_upd2 {A B : Hp} {p : Addr} {o : HO} (s : Same A B) (h : A p = none) : Same A (upd B p o) := fun b u e => by rw [upd_ne (ne_of_none e h)]; exact s _ _ e
theorem DcA.keepT {K : PySem.W.Frag} {H H' : Hp} {kvs : List (Key × V)} {S : St48} (h : DcA K H kvs S) (s : SameT H H') : DcA K H' kvs S := fun k => by
  have := h k
  cases e : S k with
  | none => rw [e] at this; exact this
  | some q =>
    rw [e] at this
    obtain ⟨v, h1, h2⟩ := this
    exact ⟨v, h1, dv_keepT s (noL_pc _) h2⟩
theorem fr_19 : frD (1 / 9 : Rat) = .tuple [.int 1, .int 9] := by
  unfold frD
  rw [show ((1 / 9 : Rat)).num = 1 by decide +kernel, show ((1 / 9 : Rat)).den = 9 by decide +kernel]
  rfl
theorem fr_51 : frD (5 : Rat) = .tuple [.int 5, .int 1] := by
  unfold frD
  rw [show ((5 : Rat)).num = 5 by decide +kernel, show ((5 : Rat)).den = 1 by decide +kernel]
  rfl
end Lib
namespace Lib
open PySem L2 Fr Op
theorem with_none : ∀ (ps : List Pc) (k : Nat), withB (fun _ => none) k ps = ps
  | [], _ => rfl
  | p :: ps, k => by
    show p :: [] ++ withB (fun _ => none) (k + 1) ps = p :: ps
    rw [with_none ps (k + 1)]
    rfl
theorem sok_none {L : Nat} {ps : List Pc} : Sok L ps fun _ => none := fun j q _ e => nomatch e
theorem in_none {ps : List Pc} {r : Ray} : InS48 ps (fun _ => none) r := fun j q _ e => nomatch e
theorem sixth {x : Int} (h0 : 0 ≤ x) (h1 : x < 5) : Bd 3 (Rat.divInt (1 + x) 6) ∧ 0 ≤ Rat.divInt (1 + x) 6 ∧ Rat.divInt (1 + x) 6 ≤ 1 := by
  have : x = 0 ∨ x = 1 ∨ x = 2 ∨ x = 3 ∨ x = 4 := by omega
  rcases this with rfl | rfl | rfl | rfl | rfl <;> exact ⟨⟨by decide +kernel, by decide +kernel⟩, by decide +kernel, by decide +kernel⟩
theorem turn_int {z : Int} {n j : Nat} (h : 0 < n) : (0 + (j : Int) + z / 3 % (n : Int)) % (n : Int) = (((j + (z / 3 % (n : Int)).toNat) % n : Nat) : Int) := by
  have h1 := Int.emod_nonneg (z / 3) (show (n : Int) ≠ 0 by omega)
  rw [Int.natCast_emod, Int.natCast_add, Int.toNat_of_nonneg h1, Int.zero_add]
theorem At48.next {K : PySem.W.Frag} {H H' : Hp} {ds la la' : Addr} {ps : List Pc} {x : Box} {r : Ray} {S : St48} {j c : Nat} {q : Rat × Rat} (h : At48 K H ds la ps x r S j c) (d : ∃ kvs, H' ds = some (.dK kvs) ∧ kvs.length ≤ j + 1 ∧ DcA K H' kvs (setS S ((j + c) % ps.length) q)) (a : ∃ rs, H' la' = some (.lst rs) ∧ DVs K H' rs ((fieldR (lims (withB (setS S ((j + c) % ps.length) q) 0 ps)) x).map rayD))
    (s : Sok 73 ps (setS S ((j + c) % ps.length) q)) (i : InS48 ps (setS S ((j + c) % ps.length) q) r) : At48 K H' ds la' ps x r (setS S ((j + c) % ps.length) q) (j + 1) c := by
  refine ⟨d, a, s, i, fun i' hi' ne => ?_⟩
  unfold setS at ne
  by_cases e : i' = (j + c) % ps.length
  · exact ⟨j, by omega, e⟩
  · rw [if_neg e] at ne
    obtain ⟨j', h1, h2⟩ := h.v i' hi' ne
    exact ⟨j', by omega, h2⟩
theorem At48.new {K : PySem.W.Frag} {H : Hp} {ds la : Addr} {ps : List Pc} {x : Box} {r : Ray} {S : St48} {j c : Nat} (h : At48 K H ds la ps x r S j c) (hj : j < ps.length) : S ((j + c) % ps.length) = none := by
  cases e : S ((j + c) % ps.length) with
  | none => rfl
  | some q => exact absurd (h.v _ (Nat.mod_lt _ (by omega)) (by rw [e]; simp)) (turn_new hj)
end Lib
namespace K48
open PySem L2 Lib Fr Op
seal PE PT PW PA PS PSs PG PGs PI PO
def top (i : Nat) : Stmt := PySem.Challenge.pw_grindbench_k48_whole_stops_shut_in_turn.main.body.getD i (.Pass ⟨0, 0, 0, 0⟩)
abbrev s_is_whole : Stmt := top 6
theorem sc_is_whole : FnScope ["thing"] ["thing"] (defScope s_is_whole) := ⟨rfl, rfl, rfl, by decide +kernel, rfl, by decide +kernel, by decide +kernel⟩
abbrev s_common_divisor : Stmt := top 7
theorem sc_common_divisor : FnScope ["one", "other", "greater", "lesser", "rest"] ["one", "other"] (defScope s_common_divisor) := ⟨rfl, rfl, rfl, by decide +kernel, rfl, by decide +kernel, by decide +kernel⟩
abbrev s_is_ratio : Stmt := top 8
theorem sc_is_ratio : FnScope ["thing", "top", "bottom"] ["thing"] (defScope s_is_ratio) := ⟨rfl, rfl, rfl, by decide +kernel, rfl, by decide +kernel, by decide +kernel⟩
abbrev s_ratio_of : Stmt := top 9
theorem sc_ratio_of : FnScope ["top", "bottom", "divisor"] ["top", "bottom"] (defScope s_ratio_of) := ⟨rfl, rfl, rfl, by decide +kernel, rfl, by decide +kernel, by decide +kernel⟩
abbrev s_sum_of : Stmt := top 10
theorem sc_sum_of : FnScope ["one", "other"] ["one", "other"] (defScope s_sum_of) := ⟨rfl, rfl, rfl, by decide +kernel, rfl, by decide +kernel, by decide +kernel⟩
abbrev s_less_by : Stmt := top 11
theorem sc_less_by : FnScope ["one", "other"] ["one", "other"] (defScope s_less_by) := ⟨rfl, rfl, rfl, by decide +kernel, rfl, by decide +kernel, by decide +kernel⟩
abbrev s_product_of : Stmt := top 12
theorem sc_product_of : FnScope ["one", "other"] ["one", "other"] (defScope s_product_of) := ⟨rfl, rfl, rfl, by decide +kernel, rfl, by decide +kernel, by decide +kernel⟩
abbrev s_quotient_of : Stmt := top 13
theorem sc_quotient_of : FnScope ["one", "other"] ["one", "other"] (defScope s_quotient_of) := ⟨rfl, rfl, rfl, by decide +kernel, rfl, by decide +kernel, by decide +kernel⟩
abbrev s_is_less : Stmt := top 14
theorem sc_is_less : FnScope ["one", "other"] ["one", "other"] (defScope s_is_less) := ⟨rfl, rfl, rfl, by decide +kernel, rfl, by decide +kernel, by decide +kernel⟩
abbrev s_is_stretch : Stmt := top 16
theorem sc_is_stretch : FnScope ["first", "last"] ["first", "last"] (defScope s_is_stretch) := ⟨rfl, rfl, rfl, by decide +kernel, rfl, by decide +kernel, by decide +kernel⟩
abbrev s_is_box : Stmt := top 17
theorem sc_is_box : FnScope ["thing"] ["thing"] (defScope s_is_box) := ⟨rfl, rfl, rfl, by decide +kernel, rfl, by decide +kernel, by decide +kernel⟩
abbrev s_look_at_box : Stmt := top 18
theorem sc_look_at_box : FnScope ["box"] ["box"] (defScope s_look_at_box) := ⟨rfl, rfl, rfl, by decide +kernel, rfl, by decide +kernel, by decide +kernel⟩
abbrev s_is_piece : Stmt := top 28
theorem sc_is_piece : FnScope ["thing"] ["thing"] (defScope s_is_piece) := ⟨rfl, rfl, rfl, by decide +kernel, rfl, by decide +kernel, by decide +kernel⟩
abbrev s_piece_of : Stmt := top 29
theorem sc_piece_of : FnScope ["told"] ["told"] (defScope s_piece_of) := ⟨rfl, rfl, rfl, by decide +kernel, rfl, by decide +kernel, by decide +kernel⟩
abbrev s_look_at : Stmt := top 30
theorem sc_look_at : FnScope ["bench", "number", "thing"] ["bench"] (defScope s_look_at) := ⟨rfl, rfl, rfl, by decide +kernel, rfl, by decide +kernel, by decide +kernel⟩
abbrev s_limits_of : Stmt := top 34
theorem sc_limits_of : FnScope ["bench", "limits", "high", "slanted", "number", "told", "piece"] ["bench"] (defScope s_limits_of) := ⟨rfl, rfl, rfl, by decide +kernel, rfl, by decide +kernel, by decide +kernel⟩
abbrev s_is_before : Stmt := top 36
theorem sc_is_before : FnScope ["one", "other"] ["one", "other"] (defScope s_is_before) := ⟨rfl, rfl, rfl, by decide +kernel, rfl, by decide +kernel, by decide +kernel⟩
abbrev s_turn_of : Stmt := top 37
theorem sc_turn_of : FnScope ["start", "end", "ray", "up", "along"] ["start", "end", "ray"] (defScope s_turn_of) := ⟨rfl, rfl, rfl, by decide +kernel, rfl, by decide +kernel, by decide +kernel⟩
abbrev s_corners_of : Stmt := top 38
theorem sc_corners_of : FnScope ["box", "corners", "corner"] ["box"] (defScope s_corners_of) := ⟨rfl, rfl, rfl, by decide +kernel, rfl, by decide +kernel, by decide +kernel⟩
abbrev s_edges_of : Stmt := top 39
theorem sc_edges_of : FnScope ["limit", "a", "b", "above", "below"] ["limit"] (defScope s_edges_of) := ⟨rfl, rfl, rfl, by decide +kernel, rfl, by decide +kernel, by decide +kernel⟩
abbrev s_room_at : Stmt := top 40
theorem sc_room_at : FnScope ["edge", "ray"] ["edge", "ray"] (defScope s_room_at) := ⟨rfl, rfl, rfl, by decide +kernel, rfl, by decide +kernel, by decide +kernel⟩
abbrev s_crossing_of : Stmt := top 41
theorem sc_crossing_of : FnScope ["one", "other", "one_room", "other_room", "part", "height", "slant"] ["one", "other", "one_room", "other_room"] (defScope s_crossing_of) := ⟨rfl, rfl, rfl, by decide +kernel, rfl, by decide +kernel, by decide +kernel⟩
abbrev s_cut_by : Stmt := top 42
theorem sc_cut_by : FnScope ["edge", "corners", "rooms", "left", "number", "corner", "before", "crossing"] ["edge", "corners"] (defScope s_cut_by) := ⟨rfl, rfl, rfl, by decide +kernel, rfl, by decide +kernel, by decide +kernel⟩
abbrev s_from_the_least : Stmt := top 43
theorem sc_from_the_least : FnScope ["corners", "least", "number", "corner"] ["corners"] (defScope s_from_the_least) := ⟨rfl, rfl, rfl, by decide +kernel, rfl, by decide +kernel, by decide +kernel⟩
abbrev s_field_of : Stmt := top 44
theorem sc_field_of : FnScope ["bench", "box", "limits", "corners", "limit", "edge"] ["bench", "box"] (defScope s_field_of) := ⟨rfl, rfl, rfl, by decide +kernel, rfl, by decide +kernel, by decide +kernel⟩
abbrev s_is_within : Stmt := top 45
theorem sc_is_within : FnScope ["corners", "ray", "number", "corner"] ["corners", "ray"] (defScope s_is_within) := ⟨rfl, rfl, rfl, by decide +kernel, rfl, by decide +kernel, by decide +kernel⟩
abbrev s_size_of : Stmt := top 46
theorem sc_size_of : FnScope ["corners", "twice", "number", "corner", "before"] ["corners"] (defScope s_size_of) := ⟨rfl, rfl, rfl, by decide +kernel, rfl, by decide +kernel, by decide +kernel⟩
abbrev s_walk_of : Stmt := top 48
theorem sc_walk_of : FnScope ["bench", "ray", "rays", "number", "told", "piece"] ["bench", "ray"] (defScope s_walk_of) := ⟨rfl, rfl, rfl, by decide +kernel, rfl, by decide +kernel, by decide +kernel⟩
abbrev s_goes_by : Stmt := top 49
theorem sc_goes_by : FnScope ["bench", "ray"] ["bench", "ray"] (defScope s_goes_by) := ⟨rfl, rfl, rfl, by decide +kernel, rfl, by decide +kernel, by decide +kernel⟩
abbrev s__law_cell_at : Stmt := top 51
theorem sc__law_cell_at : FnScope ["_law_script", "_law_k"] ["_law_script", "_law_k"] (defScope s__law_cell_at) := ⟨rfl, rfl, rfl, by decide +kernel, rfl, by decide +kernel, by decide +kernel⟩
abbrev s__law_mix : Stmt := top 52
theorem sc__law_mix : FnScope ["_law_cell", "_law_by", "_law_many", "_law_digits", "_law_turn", "_law_one"] ["_law_cell", "_law_by", "_law_many"] (defScope s__law_mix) := ⟨rfl, rfl, rfl, by decide +kernel, rfl, by decide +kernel, by decide +kernel⟩
abbrev s__law_ratio : Stmt := top 53
theorem sc__law_ratio : FnScope ["_law_cell", "_law_by", "_law_number"] ["_law_cell", "_law_by"] (defScope s__law_ratio) := ⟨rfl, rfl, rfl, by decide +kernel, rfl, by decide +kernel, by decide +kernel⟩
abbrev s__law_box : Stmt := top 54
theorem sc__law_box : FnScope ["_law_cell", "_law_low", "_law_first", "_law_wide"] ["_law_cell"] (defScope s__law_box) := ⟨rfl, rfl, rfl, by decide +kernel, rfl, by decide +kernel, by decide +kernel⟩
abbrev s__law_pieces : Stmt := top 55
theorem sc__law_pieces : FnScope ["_law_cells"] ["_law_cells"] (defScope s__law_pieces) := ⟨rfl, rfl, rfl, by decide +kernel, rfl, by decide +kernel, by decide +kernel⟩
abbrev s__law_height : Stmt := top 56
theorem sc__law_height : FnScope ["_law_pieces_here", "_law_ray", "_law_y", "_law_u", "_law_piece"] ["_law_pieces_here", "_law_ray"] (defScope s__law_height) := ⟨rfl, rfl, rfl, by decide +kernel, rfl, by decide +kernel, by decide +kernel⟩
abbrev s__law_with : Stmt := top 57
theorem sc__law_with : FnScope ["_law_pieces_here", "_law_stops", "_law_bench", "_law_k", "_law_piece"] ["_law_pieces_here", "_law_stops"] (defScope s__law_with) := ⟨rfl, rfl, rfl, by decide +kernel, rfl, by decide +kernel, by decide +kernel⟩
abbrev s__law_shut : Stmt := top 58
theorem sc__law_shut : FnScope ["_law_pieces_here", "_law_stops", "_law_box_here", "_law_ray", "_law_corners", "_law_k", "_law_here", "_law_flat", "_law_found", "_law_heights", "_law_top", "_law_height_here"] ["_law_pieces_here", "_law_stops", "_law_box_here", "_law_ray", "_law_corners", "_law_k"] (defScope s__law_shut) := ⟨rfl, rfl, rfl, by decide +kernel, rfl, by decide +kernel, by decide +kernel⟩
abbrev s_law : Stmt := top 59
theorem sc_law : FnScope ["_law_script", "_law_box_here", "_law_pieces_here", "_law_cell", "_law_share", "_law_ray", "_law_stops", "_law_ahead", "_law_j", "_law_k", "_law_here", "_law_open_by", "_law_bench", "_law_found"] ["_law_script"] (defScope s_law) := ⟨rfl, rfl, rfl, by decide +kernel, rfl, by decide +kernel, by decide +kernel⟩
abbrev s_Piece_lets : Stmt := inClass (top 24) 0
theorem sc_Piece_lets : FnScope ["self", "ray"] ["self", "ray"] (defScope s_Piece_lets) := ⟨rfl, rfl, rfl, by decide +kernel, rfl, by decide +kernel, by decide +kernel⟩
abbrev s_Piece_bent : Stmt := inClass (top 24) 1
theorem sc_Piece_bent : FnScope ["self", "ray"] ["self", "ray"] (defScope s_Piece_bent) := ⟨rfl, rfl, rfl, by decide +kernel, rfl, by decide +kernel, by decide +kernel⟩
abbrev s_Gap_init : Stmt := inClass (top 25) 0
theorem sc_Gap_init : FnScope ["self", "length"] ["self", "length"] (defScope s_Gap_init) := ⟨rfl, rfl, rfl, by decide +kernel, rfl, by decide +kernel, by decide +kernel⟩
abbrev s_Gap_bent : Stmt := inClass (top 25) 1
theorem sc_Gap_bent : FnScope ["self", "ray"] ["self", "ray"] (defScope s_Gap_bent) := ⟨rfl, rfl, rfl, by decide +kernel, rfl, by decide +kernel, by decide +kernel⟩
abbrev s_Glass_init : Stmt := inClass (top 26) 0
theorem sc_Glass_init : FnScope ["self", "strength"] ["self", "strength"] (defScope s_Glass_init) := ⟨rfl, rfl, rfl, by decide +kernel, rfl, by decide +kernel, by decide +kernel⟩
abbrev s_Glass_bent : Stmt := inClass (top 26) 1
theorem sc_Glass_bent : FnScope ["self", "ray"] ["self", "ray"] (defScope s_Glass_bent) := ⟨rfl, rfl, rfl, by decide +kernel, rfl, by decide +kernel, by decide +kernel⟩
abbrev s_Stop_init : Stmt := inClass (top 27) 0
theorem sc_Stop_init : FnScope ["self", "low", "high"] ["self", "low", "high"] (defScope s_Stop_init) := ⟨rfl, rfl, rfl, by decide +kernel, rfl, by decide +kernel, by decide +kernel⟩
abbrev s_Stop_lets : Stmt := inClass (top 27) 1
theorem sc_Stop_lets : FnScope ["self", "ray"] ["self", "ray"] (defScope s_Stop_lets) := ⟨rfl, rfl, rfl, by decide +kernel, rfl, by decide +kernel, by decide +kernel⟩
structure Adr where
  z0 : Nat := 0
  BenchError : Addr
  NoNumber : Addr
  NoBox : Addr
  NoBench : Addr
  Piece : Addr
  Gap : Addr
  Glass : Addr
  Stop : Addr
  NOUGHT : Addr
  ONE : Addr
  tGAP : Tok
  tGLASS : Tok
  tSTOP : Tok
  tMOST_PIECES : Tok
structure Exc (K : PySem.W.Frag) (mg : Str → Option Value) (ad : Adr) : Prop where
  tt : True := trivial
  m_BenchError : mg "BenchError" = some (.ref ad.BenchError)
  m_NoNumber : mg "NoNumber" = some (.ref ad.NoNumber)
  m_NoBox : mg "NoBox" = some (.ref ad.NoBox)
  m_NoBench : mg "NoBench" = some (.ref ad.NoBench)
  m_Piece : mg "Piece" = some (.ref ad.Piece)
  m_Gap : mg "Gap" = some (.ref ad.Gap)
  m_Glass : mg "Glass" = some (.ref ad.Glass)
  m_Stop : mg "Stop" = some (.ref ad.Stop)
  m_GAP : mg "GAP" = some (.str "gap" ad.tGAP)
  m_GLASS : mg "GLASS" = some (.str "glass" ad.tGLASS)
  m_STOP : mg "STOP" = some (.str "stop" ad.tSTOP)
  m_MOST_PIECES : mg "MOST_PIECES" = some (.int 60 ad.tMOST_PIECES)
  l_Gap : Cls K ad.Gap
  i_Gap : MkFn K mg "Gap" ad.Gap "Gap.__init__" s_Gap_init
  q_Gap_lets : MtFn K ad.Gap "lets" "Piece.lets" s_Piece_lets
  q_Gap_bent : MtFn K ad.Gap "bent" "Gap.bent" s_Gap_bent
  n_Gap_length : NoAttr K ad.Gap "length"
  l_Glass : Cls K ad.Glass
  i_Glass : MkFn K mg "Glass" ad.Glass "Glass.__init__" s_Glass_init
  q_Glass_lets : MtFn K ad.Glass "lets" "Piece.lets" s_Piece_lets
  q_Glass_bent : MtFn K ad.Glass "bent" "Glass.bent" s_Glass_bent
  n_Glass_strength : NoAttr K ad.Glass "strength"
  l_Stop : Cls K ad.Stop
  i_Stop : MkFn K mg "Stop" ad.Stop "Stop.__init__" s_Stop_init
  q_Stop_lets : MtFn K ad.Stop "lets" "Stop.lets" s_Stop_lets
  q_Stop_bent : MtFn K ad.Stop "bent" "Piece.bent" s_Piece_bent
  n_Stop_low : NoAttr K ad.Stop "low"
  n_Stop_high : NoAttr K ad.Stop "high"
  m_NOUGHT : mg "NOUGHT" = some (.ref ad.NOUGHT)
  s_NOUGHT : ∀ H : Hp, SqT K H ad.NOUGHT [.int 0, .int 1]
  m_ONE : mg "ONE" = some (.ref ad.ONE)
  s_ONE : ∀ H : Hp, SqT K H ad.ONE [.int 1, .int 1]
structure Txt (K : PySem.W.Frag) (mg : Str → Option Value) (ad : Adr) : Prop where
  ex : Exc K mg ad
  abs : mg "abs" = none
  all : mg "all" = none
  bool : mg "bool" = none
  dict : mg "dict" = none
  enumerate : mg "enumerate" = none
  int : mg "int" = none
  isinstance : mg "isinstance" = none
  len : mg "len" = none
  list : mg "list" = none
  range : mg "range" = none
  str : mg "str" = none
  tuple : mg "tuple" = none
  t_is_whole : TopFn K mg "is_whole" s_is_whole
  t_common_divisor : TopFn K mg "common_divisor" s_common_divisor
  t_is_ratio : TopFn K mg "is_ratio" s_is_ratio
  t_ratio_of : TopFn K mg "ratio_of" s_ratio_of
  t_sum_of : TopFn K mg "sum_of" s_sum_of
  t_less_by : TopFn K mg "less_by" s_less_by
  t_product_of : TopFn K mg "product_of" s_product_of
  t_quotient_of : TopFn K mg "quotient_of" s_quotient_of
  t_is_less : TopFn K mg "is_less" s_is_less
  t_is_stretch : TopFn K mg "is_stretch" s_is_stretch
  t_is_box : TopFn K mg "is_box" s_is_box
  t_look_at_box : TopFn K mg "look_at_box" s_look_at_box
  t_is_piece : TopFn K mg "is_piece" s_is_piece
  t_piece_of : TopFn K mg "piece_of" s_piece_of
  t_look_at : TopFn K mg "look_at" s_look_at
  t_limits_of : TopFn K mg "limits_of" s_limits_of
  t_is_before : TopFn K mg "is_before" s_is_before
  t_turn_of : TopFn K mg "turn_of" s_turn_of
  t_corners_of : TopFn K mg "corners_of" s_corners_of
  t_edges_of : TopFn K mg "edges_of" s_edges_of
  t_room_at : TopFn K mg "room_at" s_room_at
  t_crossing_of : TopFn K mg "crossing_of" s_crossing_of
  t_cut_by : TopFn K mg "cut_by" s_cut_by
  t_from_the_least : TopFn K mg "from_the_least" s_from_the_least
  t_field_of : TopFn K mg "field_of" s_field_of
  t_is_within : TopFn K mg "is_within" s_is_within
  t_size_of : TopFn K mg "size_of" s_size_of
  t_walk_of : TopFn K mg "walk_of" s_walk_of
  t_goes_by : TopFn K mg "goes_by" s_goes_by
  t__law_cell_at : TopFn K mg "_law_cell_at" s__law_cell_at
  t__law_mix : TopFn K mg "_law_mix" s__law_mix
  t__law_ratio : TopFn K mg "_law_ratio" s__law_ratio
  t__law_box : TopFn K mg "_law_box" s__law_box
  t__law_pieces : TopFn K mg "_law_pieces" s__law_pieces
  t__law_height : TopFn K mg "_law_height" s__law_height
  t__law_with : TopFn K mg "_law_with" s__law_with
  t__law_shut : TopFn K mg "_law_shut" s__law_shut
theorem exc_mk {K : PySem.W.Frag} {h : Heap} {mg : Str → Option Value} {CBenchError CNoNumber CNoBox CNoBench CPiece CGap CGlass CStop CNOUGHT CONE : Addr} {tGAP : Tok} {tGLASS : Tok} {tSTOP : Tok} {tMOST_PIECES : Tok} {f_Gap_init : Addr} {oc_Gap_init : Value} {od_Gap_init an_Gap_init : Option Addr} {sl_Gap_init : Array (Option Value)} {kV_Gap_init dc_Gap_init pm_Gap_init cd_Gap_init ct_Gap_init : Value} {f_Gap_lets : Addr} {oc_Gap_lets : Value} {od_Gap_lets an_Gap_lets : Option Addr} {sl_Gap_lets : Array (Option Value)} {kV_Gap_lets dc_Gap_lets pm_Gap_lets cd_Gap_lets ct_Gap_lets : Value} {f_Gap_bent : Addr} {oc_Gap_bent : Value} {od_Gap_bent an_Gap_bent : Option Addr} {sl_Gap_bent : Array (Option Value)} {kV_Gap_bent dc_Gap_bent pm_Gap_bent cd_Gap_bent ct_Gap_bent : Value} {f_Glass_init : Addr} {oc_Glass_init : Value} {od_Glass_init an_Glass_init : Option Addr} {sl_Glass_init : Array (Option Value)} {kV_Glass_init dc_Glass_init pm_Glass_init cd_Glass_init ct_Glass_init : Value} {f_Glass_lets : Addr} {oc_Glass_lets : Value} {od_Glass_lets an_Glass_lets : Option Addr} {sl_Glass_lets : Array (Option Value)} {kV_Glass_lets dc_Glass_lets pm_Glass_lets cd_Glass_lets ct_Glass_lets : Value} {f_Glass_bent : Addr} {oc_Glass_bent : Value} {od_Glass_bent an_Glass_bent : Option Addr} {sl_Glass_bent : Array (Option Value)} {kV_Glass_bent dc_Glass_bent pm_Glass_bent cd_Glass_bent ct_Glass_bent : Value} {f_Stop_init : Addr} {oc_Stop_init : Value} {od_Stop_init an_Stop_init : Option Addr} {sl_Stop_init : Array (Option Value)} {kV_Stop_init dc_Stop_init pm_Stop_init cd_Stop_init ct_Stop_init : Value} {f_Stop_lets : Addr} {oc_Stop_lets : Value} {od_Stop_lets an_Stop_lets : Option Addr} {sl_Stop_lets : Array (Option Value)} {kV_Stop_lets dc_Stop_lets pm_Stop_lets cd_Stop_lets ct_Stop_lets : Value} {f_Stop_bent : Addr} {oc_Stop_bent : Value} {od_Stop_bent an_Stop_bent : Option Addr} {sl_Stop_bent : Array (Option Value)} {kV_Stop_bent dc_Stop_bent pm_Stop_bent cd_Stop_bent ct_Stop_bent : Value} {tk_NOUGHT_0 : Tok} {tk_NOUGHT_1 : Tok} {dd_NOUGHT : Option Addr} {nn_NOUGHT : Nat} {sl_NOUGHT : Array (Option Value)} {tk_ONE_0 : Tok} {tk_ONE_1 : Tok} {dd_ONE : Option Addr} {nn_ONE : Nat} {sl_ONE : Array (Option Value)} (X : K.In h) (G : h.Ns mainGlobals mg) (m_BenchError : PySem.W.nsIn K mainGlobals "BenchError" = some (some (.ref CBenchError))) (m_NoNumber : PySem.W.nsIn K mainGlobals "NoNumber" = some (some (.ref CNoNumber))) (m_NoBox : PySem.W.nsIn K mainGlobals "NoBox" = some (some (.ref CNoBox))) (m_NoBench : PySem.W.nsIn K mainGlobals "NoBench" = some (some (.ref CNoBench))) (m_Piece : PySem.W.nsIn K mainGlobals "Piece" = some (some (.ref CPiece))) (m_Gap : PySem.W.nsIn K mainGlobals "Gap" = some (some (.ref CGap))) (m_Glass : PySem.W.nsIn K mainGlobals "Glass" = some (some (.ref CGlass))) (m_Stop : PySem.W.nsIn K mainGlobals "Stop" = some (some (.ref CStop))) (m_GAP : PySem.W.nsIn K mainGlobals "GAP" = some (some (.str "gap" tGAP))) (m_GLASS : PySem.W.nsIn K mainGlobals "GLASS" = some (some (.str "glass" tGLASS))) (m_STOP : PySem.W.nsIn K mainGlobals "STOP" = some (some (.str "stop" tSTOP))) (m_MOST_PIECES : PySem.W.nsIn K mainGlobals "MOST_PIECES" = some (some (.int 60 tMOST_PIECES))) (pg_Gap : PySem.W.plainGet K CGap Str.empty = true) (hd_Gap : PySem.W.hasDictIn K CGap = true) (po_Gap : PySem.W.plainOver K CGap = true) (sa_Gap : PySem.W.findIn K (.ref CGap) "__setattr__" = some (some (.builtin "object.__setattr__"))) (mk_Gap_init : PySem.W.makesIn K CGap = true) (a_Gap_init : PySem.W.findIn K (.ref CGap) "__init__" = some (some (.ref f_Gap_init))) (fn_Gap_init : PySem.W.isFn K (.ref f_Gap_init) = true) (kc_Gap_init : PySem.W.keepIn K (.ref CGap) = true) (l_Gap_init : K.lookup f_Gap_init = some ⟨oc_Gap_init, od_Gap_init, .func (PySem.W.fnOf "__init__" "Gap.__init__" (defArgs s_Gap_init) (defBody s_Gap_init) (defScope s_Gap_init) .none kV_Gap_init dc_Gap_init pm_Gap_init an_Gap_init cd_Gap_init ct_Gap_init), sl_Gap_init⟩) (c_Gap_init : PySem.W.codeIn K cd_Gap_init "Gap.__init__" = true) (kp_Gap_init : PySem.W.keepIn K (.ref f_Gap_init) = true) (a_Gap_lets : PySem.W.findIn K (.ref CGap) "lets" = some (some (.ref f_Gap_lets))) (fn_Gap_lets : PySem.W.isFn K (.ref f_Gap_lets) = true) (kp_Gap_lets : PySem.W.keepIn K (.ref f_Gap_lets) = true) (l_Gap_lets : K.lookup f_Gap_lets = some ⟨oc_Gap_lets, od_Gap_lets, .func (PySem.W.fnOf "lets" "Piece.lets" (defArgs s_Piece_lets) (defBody s_Piece_lets) (defScope s_Piece_lets) .none kV_Gap_lets dc_Gap_lets pm_Gap_lets an_Gap_lets cd_Gap_lets ct_Gap_lets), sl_Gap_lets⟩) (c_Gap_lets : PySem.W.codeIn K cd_Gap_lets "Piece.lets" = true) (a_Gap_bent : PySem.W.findIn K (.ref CGap) "bent" = some (some (.ref f_Gap_bent))) (fn_Gap_bent : PySem.W.isFn K (.ref f_Gap_bent) = true) (kp_Gap_bent : PySem.W.keepIn K (.ref f_Gap_bent) = true) (l_Gap_bent : K.lookup f_Gap_bent = some ⟨oc_Gap_bent, od_Gap_bent, .func (PySem.W.fnOf "bent" "Gap.bent" (defArgs s_Gap_bent) (defBody s_Gap_bent) (defScope s_Gap_bent) .none kV_Gap_bent dc_Gap_bent pm_Gap_bent an_Gap_bent cd_Gap_bent ct_Gap_bent), sl_Gap_bent⟩) (c_Gap_bent : PySem.W.codeIn K cd_Gap_bent "Gap.bent" = true) (n_Gap_length : PySem.W.findIn K (.ref CGap) "length" = some none) (pg_Glass : PySem.W.plainGet K CGlass Str.empty = true) (hd_Glass : PySem.W.hasDictIn K CGlass = true) (po_Glass : PySem.W.plainOver K CGlass = true) (sa_Glass : PySem.W.findIn K (.ref CGlass) "__setattr__" = some (some (.builtin "object.__setattr__"))) (mk_Glass_init : PySem.W.makesIn K CGlass = true) (a_Glass_init : PySem.W.findIn K (.ref CGlass) "__init__" = some (some (.ref f_Glass_init))) (fn_Glass_init : PySem.W.isFn K (.ref f_Glass_init) = true) (kc_Glass_init : PySem.W.keepIn K (.ref CGlass) = true) (l_Glass_init : K.lookup f_Glass_init = some ⟨oc_Glass_init, od_Glass_init, .func (PySem.W.fnOf "__init__" "Glass.__init__" (defArgs s_Glass_init) (defBody s_Glass_init) (defScope s_Glass_init) .none kV_Glass_init dc_Glass_init pm_Glass_init an_Glass_init cd_Glass_init ct_Glass_init), sl_Glass_init⟩) (c_Glass_init : PySem.W.codeIn K cd_Glass_init "Glass.__init__" = true) (kp_Glass_init : PySem.W.keepIn K (.ref f_Glass_init) = true) (a_Glass_lets : PySem.W.findIn K (.ref CGlass) "lets" = some (some (.ref f_Glass_lets))) (fn_Glass_lets : PySem.W.isFn K (.ref f_Glass_lets) = true) (kp_Glass_lets : PySem.W.keepIn K (.ref f_Glass_lets) = true) (l_Glass_lets : K.lookup f_Glass_lets = some ⟨oc_Glass_lets, od_Glass_lets, .func (PySem.W.fnOf "lets" "Piece.lets" (defArgs s_Piece_lets) (defBody s_Piece_lets) (defScope s_Piece_lets) .none kV_Glass_lets dc_Glass_lets pm_Glass_lets an_Glass_lets cd_Glass_lets ct_Glass_lets), sl_Glass_lets⟩) (c_Glass_lets : PySem.W.codeIn K cd_Glass_lets "Piece.lets" = true) (a_Glass_bent : PySem.W.findIn K (.ref CGlass) "bent" = some (some (.ref f_Glass_bent))) (fn_Glass_bent : PySem.W.isFn K (.ref f_Glass_bent) = true) (kp_Glass_bent : PySem.W.keepIn K (.ref f_Glass_bent) = true) (l_Glass_bent : K.lookup f_Glass_bent = some ⟨oc_Glass_bent, od_Glass_bent, .func (PySem.W.fnOf "bent" "Glass.bent" (defArgs s_Glass_bent) (defBody s_Glass_bent) (defScope s_Glass_bent) .none kV_Glass_bent dc_Glass_bent pm_Glass_bent an_Glass_bent cd_Glass_bent ct_Glass_bent), sl_Glass_bent⟩) (c_Glass_bent : PySem.W.codeIn K cd_Glass_bent "Glass.bent" = true) (n_Glass_strength : PySem.W.findIn K (.ref CGlass) "strength" = some none) (pg_Stop : PySem.W.plainGet K CStop Str.empty = true) (hd_Stop : PySem.W.hasDictIn K CStop = true) (po_Stop : PySem.W.plainOver K CStop = true) (sa_Stop : PySem.W.findIn K (.ref CStop) "__setattr__" = some (some (.builtin "object.__setattr__"))) (mk_Stop_init : PySem.W.makesIn K CStop = true) (a_Stop_init : PySem.W.findIn K (.ref CStop) "__init__" = some (some (.ref f_Stop_init))) (fn_Stop_init : PySem.W.isFn K (.ref f_Stop_init) = true) (kc_Stop_init : PySem.W.keepIn K (.ref CStop) = true) (l_Stop_init : K.lookup f_Stop_init = some ⟨oc_Stop_init, od_Stop_init, .func (PySem.W.fnOf "__init__" "Stop.__init__" (defArgs s_Stop_init) (defBody s_Stop_init) (defScope s_Stop_init) .none kV_Stop_init dc_Stop_init pm_Stop_init an_Stop_init cd_Stop_init ct_Stop_init), sl_Stop_init⟩) (c_Stop_init : PySem.W.codeIn K cd_Stop_init "Stop.__init__" = true) (kp_Stop_init : PySem.W.keepIn K (.ref f_Stop_init) = true) (a_Stop_lets : PySem.W.findIn K (.ref CStop) "lets" = some (some (.ref f_Stop_lets))) (fn_Stop_lets : PySem.W.isFn K (.ref f_Stop_lets) = true) (kp_Stop_lets : PySem.W.keepIn K (.ref f_Stop_lets) = true) (l_Stop_lets : K.lookup f_Stop_lets = some ⟨oc_Stop_lets, od_Stop_lets, .func (PySem.W.fnOf "lets" "Stop.lets" (defArgs s_Stop_lets) (defBody s_Stop_lets) (defScope s_Stop_lets) .none kV_Stop_lets dc_Stop_lets pm_Stop_lets an_Stop_lets cd_Stop_lets ct_Stop_lets), sl_Stop_lets⟩) (c_Stop_lets : PySem.W.codeIn K cd_Stop_lets "Stop.lets" = true) (a_Stop_bent : PySem.W.findIn K (.ref CStop) "bent" = some (some (.ref f_Stop_bent))) (fn_Stop_bent : PySem.W.isFn K (.ref f_Stop_bent) = true) (kp_Stop_bent : PySem.W.keepIn K (.ref f_Stop_bent) = true) (l_Stop_bent : K.lookup f_Stop_bent = some ⟨oc_Stop_bent, od_Stop_bent, .func (PySem.W.fnOf "bent" "Piece.bent" (defArgs s_Piece_bent) (defBody s_Piece_bent) (defScope s_Piece_bent) .none kV_Stop_bent dc_Stop_bent pm_Stop_bent an_Stop_bent cd_Stop_bent ct_Stop_bent), sl_Stop_bent⟩) (c_Stop_bent : PySem.W.codeIn K cd_Stop_bent "Piece.bent" = true) (n_Stop_low : PySem.W.findIn K (.ref CStop) "low" = some none) (n_Stop_high : PySem.W.findIn K (.ref CStop) "high" = some none) (m_NOUGHT : PySem.W.nsIn K mainGlobals "NOUGHT" = some (some (.ref CNOUGHT))) (lk_NOUGHT : K.lookup CNOUGHT = some ⟨.type "tuple", dd_NOUGHT, .seq #[.int 0 tk_NOUGHT_0, .int 1 tk_NOUGHT_1] nn_NOUGHT, sl_NOUGHT⟩) (m_ONE : PySem.W.nsIn K mainGlobals "ONE" = some (some (.ref CONE))) (lk_ONE : K.lookup CONE = some ⟨.type "tuple", dd_ONE, .seq #[.int 1 tk_ONE_0, .int 1 tk_ONE_1] nn_ONE, sl_ONE⟩) : Exc K mg ⟨0, CBenchError, CNoNumber, CNoBox, CNoBench, CPiece, CGap, CGlass, CStop, CNOUGHT, CONE, tGAP, tGLASS, tSTOP, tMOST_PIECES⟩ := ⟨trivial, PySem.W.mg_of X G m_BenchError, PySem.W.mg_of X G m_NoNumber, PySem.W.mg_of X G m_NoBox, PySem.W.mg_of X G m_NoBench, PySem.W.mg_of X G m_Piece, PySem.W.mg_of X G m_Gap, PySem.W.mg_of X G m_Glass, PySem.W.mg_of X G m_Stop, PySem.W.mg_of X G m_GAP, PySem.W.mg_of X G m_GLASS, PySem.W.mg_of X G m_STOP, PySem.W.mg_of X G m_MOST_PIECES, ⟨pg_Gap, hd_Gap, po_Gap, sa_Gap⟩, ⟨⟨_, _, fun_mk l_Gap_init c_Gap_init kp_Gap_init, ⟨mk_Gap_init, a_Gap_init, fn_Gap_init, kc_Gap_init⟩⟩, PySem.W.mg_of X G m_Gap⟩, ⟨⟨_, _, fun_mk l_Gap_lets c_Gap_lets kp_Gap_lets, ⟨a_Gap_lets, fn_Gap_lets, kp_Gap_lets⟩⟩, ⟨pg_Gap, hd_Gap, po_Gap, sa_Gap⟩⟩, ⟨⟨_, _, fun_mk l_Gap_bent c_Gap_bent kp_Gap_bent, ⟨a_Gap_bent, fn_Gap_bent, kp_Gap_bent⟩⟩, ⟨pg_Gap, hd_Gap, po_Gap, sa_Gap⟩⟩, n_Gap_length, ⟨pg_Glass, hd_Glass, po_Glass, sa_Glass⟩, ⟨⟨_, _, fun_mk l_Glass_init c_Glass_init kp_Glass_init, ⟨mk_Glass_init, a_Glass_init, fn_Glass_init, kc_Glass_init⟩⟩, PySem.W.mg_of X G m_Glass⟩, ⟨⟨_, _, fun_mk l_Glass_lets c_Glass_lets kp_Glass_lets, ⟨a_Glass_lets, fn_Glass_lets, kp_Glass_lets⟩⟩, ⟨pg_Glass, hd_Glass, po_Glass, sa_Glass⟩⟩, ⟨⟨_, _, fun_mk l_Glass_bent c_Glass_bent kp_Glass_bent, ⟨a_Glass_bent, fn_Glass_bent, kp_Glass_bent⟩⟩, ⟨pg_Glass, hd_Glass, po_Glass, sa_Glass⟩⟩, n_Glass_strength, ⟨pg_Stop, hd_Stop, po_Stop, sa_Stop⟩, ⟨⟨_, _, fun_mk l_Stop_init c_Stop_init kp_Stop_init, ⟨mk_Stop_init, a_Stop_init, fn_Stop_init, kc_Stop_init⟩⟩, PySem.W.mg_of X G m_Stop⟩, ⟨⟨_, _, fun_mk l_Stop_lets c_Stop_lets kp_Stop_lets, ⟨a_Stop_lets, fn_Stop_lets, kp_Stop_lets⟩⟩, ⟨pg_Stop, hd_Stop, po_Stop, sa_Stop⟩⟩, ⟨⟨_, _, fun_mk l_Stop_bent c_Stop_bent kp_Stop_bent, ⟨a_Stop_bent, fn_Stop_bent, kp_Stop_bent⟩⟩, ⟨pg_Stop, hd_Stop, po_Stop, sa_Stop⟩⟩, n_Stop_low, n_Stop_high, PySem.W.mg_of X G m_NOUGHT, fun H => .inr ⟨_, _, _, lk_NOUGHT, rfl, rfl, by show 2 ≤ sizeLine; decide, (.cons ⟨_, rfl⟩ (.cons ⟨_, rfl⟩ .nil))⟩, PySem.W.mg_of X G m_ONE, fun H => .inr ⟨_, _, _, lk_ONE, rfl, rfl, by show 2 ≤ sizeLine; decide, (.cons ⟨_, rfl⟩ (.cons ⟨_, rfl⟩ .nil))⟩⟩
section
variable {P : Program} {w : World} {K : PySem.W.Frag} {mg : Str → Option Value} {base : Heap} {ad : Adr} {c : Bool}
theorem c_is_whole (T : Txt K mg ad) : CalB P w K mg base true 1 "is_whole" ["thing"] (spW K) := by
  refine T.t_is_whole.calN sc_is_whole (fun _ _ _ _ _ _ => by1 fun _ => rfl) (fun vs H Q E h => ?_) (fun f cdv A outer s H vs Q E hr h => ?_)
  · obtain ⟨v, d, rfl, _⟩ := h; rfl
  obtain ⟨v, d, rfl, hv, q⟩ := h
  obtain ⟨b, b', hb, hc, e⟩ := isInt_b d
  refine ⟨_, (pss_one (ps_ret (pe_and (pe_callB call_isiD rfl T.isinstance bt_isinstance (pa_name (pv 0) (pa_name (pe_bltn (v := .ty "int") rfl T.int bt_int rfl) pa_nil))) (pe_one (pe_not (pe_callB call_isiD rfl T.isinstance bt_isinstance (pa_name (pv 0) (pa_name (pe_bltn (v := .ty "bool") rfl T.bool bt_bool rfl) pa_nil)))))))), ?_⟩
  refine ⟨_, rfl, _, _, _, b, rfl, hv, hb, _, rfl, ?_⟩
  cases b with
  | false =>
    have e' : isIntD d = false := e.symm
    rw [e'] at q
    exact iteF q
  | true =>
    refine iteT ?_
    refine ⟨_, rfl, _, _, _, b', rfl, hv, hc, _, rfl, ?_⟩
    have e' : (!b') = isIntD d := e
    show Q (.bl (!b')) H
    rw [e']
    exact q
theorem c_common_divisor (T : Txt K mg ad) : CalB P w K mg base true 1 "common_divisor" ["one", "other"] spDiv := by
  refine T.t_common_divisor.calN sc_common_divisor (fun _ _ _ _ _ _ => by2 fun _ _ => rfl) (fun vs H Q E h => ?_) (fun f cdv A outer s H vs Q E hr h => ?_)
  · obtain ⟨a, b, rfl, _⟩ := h; rfl
  obtain ⟨a, b, rfl, q⟩ := h
  refine ⟨_, (pss_cons (ps_set (i := 2) sc_common_divisor.nd rfl (Or.inl rfl) (pe_callB call_abs rfl T.abs bt_abs (pa_name (pv 0) pa_nil))) (pss_cons (ps_set (i := 3) sc_common_divisor.nd rfl (Or.inl rfl) (pe_callB call_abs rfl T.abs bt_abs (pa_name (pv 1) pa_nil))) (pss_cons (ps_while PassesOwn.never (pt_cmpR op_ne (pv 3) pe_int (nomark _)) (pss_cons (ps_set (i := 4) sc_common_divisor.nd rfl (Or.inl rfl) (pe_op op_mod (pv 2) (pv 3))) (pss_cons (ps_set (i := 2) sc_common_divisor.nd rfl (Or.inl rfl) (pv 3)) (pss_one (ps_set (i := 3) sc_common_divisor.nd rfl (Or.inl rfl) (pv 4)))))) (pss_one (ps_ret (pv 2)))))), ?_⟩
  refine ⟨_, rfl, _, rfl, _, rfl, _, rfl, ?_⟩
  have ea := Fr.absE a
  have eb := Fr.absE b
  refine ⟨fun k σ H' => H = H' ∧ ∃ (m : Nat) (r : Option V), σ = [some (.int a), some (.int b), some (.int m), some (.int k), r] ∧ Nat.gcd m k = Nat.gcd a.natAbs b.natAbs, ⟨b.natAbs, rfl, a.natAbs, none, by rw [← ea, ← eb]; rfl, rfl⟩, ?_⟩
  rintro n _ _ ⟨rfl, m, r, rfl, e⟩
  refine ⟨_, rfl, rfl, _, rfl, ?_⟩
  refine ite2 (fun c => ?_) (fun c => ?_)
  · have hn : n ≠ 0 := by
      intro z
      subst z
      simp at c
    have h1 : (m : Int) % (n : Int) = ((m % n : Nat) : Int) := (Int.natCast_emod m n).symm
    refine ⟨fun σ' H' => H = H' ∧ σ' = [some (.int a), some (.int b), some (.int n), some (.int ((m : Int) % (n : Int))), some (.int ((m : Int) % (n : Int)))], ?_, ?_⟩
    · rintro _ _ ⟨rfl, rfl⟩
      rw [h1]
      exact ⟨m % n, Nat.mod_lt _ (by omega), rfl, n, _, rfl, by rw [Fr.gcd_turn, e]⟩
    · exact ⟨_, rfl, _, rfl, _, _, rfl, rfl, (by show (0 : Int) < (n : Int); omega), _, rfl, _, rfl, rfl, rfl⟩
  · have hn : n = 0 := by
      by_cases z : n = 0
      · exact z
      · exfalso
        apply c
        rw [decI]
        simp
        omega
    subst hn
    refine ⟨_, rfl, ?_⟩
    have e2 : (m : Int) = Fr.gcd a b := by
      unfold Fr.gcd
      rw [← e, Nat.gcd_zero_right]
    rw [e2]
    exact q
theorem c_is_ratio (T : Txt K mg ad) : CalB P w K mg base true 2 "is_ratio" ["thing"] (spRatG K) := by
  have C_is_whole := c_is_whole (P := P) (w := w) (base := base) T
  have C_common_divisor := c_common_divisor (P := P) (w := w) (base := base) T
  refine T.t_is_ratio.calN sc_is_ratio (fun _ _ _ _ _ _ => by1 fun _ => rfl) (fun vs H Q E h => ?_) (fun f cdv A outer s H vs Q E hr h => ?_)
  · obtain ⟨_, _, rfl, _⟩ := h; rfl
  obtain ⟨v, q0, rfl, hv, q⟩ := h
  obtain ⟨a, rfl, ha⟩ := hv.fr
  refine ⟨_, (pss_cons (ps_if (PW.pt (pw_or (pt_not (pt_val (pe_callB call_isiD rfl T.isinstance bt_isinstance (pa_name (pv 0) (pa_name (pe_bltn (v := .ty "tuple") rfl T.tuple bt_tuple rfl) pa_nil))))) (pw_or1 (pt_cmpR op_ne (pe_callB call_len_seq rfl T.len bt_len (pa_name (pv 0) pa_nil)) pe_int (nomark _))))) (pss_one (ps_ret pe_bl)) pss_nil) (pss_cons (ps_set (i := 1) sc_is_ratio.nd rfl (Or.inl rfl) (pe_ix ix_tup (pv 0) pe_int (fun _ _ => rfl))) (pss_cons (ps_set (i := 2) sc_is_ratio.nd rfl (Or.inl rfl) (pe_ix ix_tup (pv 0) pe_int (fun _ _ => rfl))) (pss_cons (ps_if (PW.pt (pw_or (pt_not (pt_val (pe_cB C_is_whole (hr.mono (by decide)) pass01 (pa_name (pv 1) pa_nil)))) (pw_or1 (pt_not (pt_val (pe_cB C_is_whole (hr.mono (by decide)) pass01 (pa_name (pv 2) pa_nil))))))) (pss_one (ps_ret pe_bl)) pss_nil) (pss_one (ps_ret (pe_and (pe_cmpR op_ge (pv 2) pe_int (nomark _)) (pe_one (pe_cmpR op_eq (pe_cB C_common_divisor (hr.mono (by decide)) pass01 (pa_name (pv 1) (pa_name (pv 2) pa_nil))) pe_int (nomark _)))))))))), ?_⟩
  refine ⟨_, rfl, _, _, _, _, rfl, hv, isTup_b _, _, rfl, iteF ?_⟩
  refine ⟨_, rfl, a, _, rfl, .inr ha, rfl, _, rfl, iteF ?_⟩
  refine ⟨_, rfl, a, _, _, _, rfl, rfl, ha, rfl, ?_⟩
  refine ⟨_, rfl, a, _, _, _, rfl, rfl, ha, rfl, ?_⟩
  refine ⟨_, rfl, _, _, rfl, .int _, _, rfl, iteF ?_⟩
  refine ⟨_, rfl, _, _, rfl, .int _, _, rfl, iteF ?_⟩
  refine ⟨_, rfl, _, _, rfl, rfl, _, rfl, iteT' (decide_eq_true (denp q0)) ⟨_, rfl, _, rfl, _, _, rfl, rfl, ?_⟩⟩
  show Q (.bl (decide (V.int (Fr.gcd q0.num (q0.den : Int)) = V.int 1))) H
  rw [decI, decide_eq_true (frO_gcd q0)]
  exact q
theorem c_ratio_of (T : Txt K mg ad) : CalB P w K mg base true 2 "ratio_of" ["top", "bottom"] spOfG := by
  have C_is_whole := c_is_whole (P := P) (w := w) (base := base) T
  have C_common_divisor := c_common_divisor (P := P) (w := w) (base := base) T
  refine T.t_ratio_of.calN sc_ratio_of (fun _ _ _ _ _ _ => by2 fun _ _ => rfl) (fun vs H Q E h => ?_) (fun f cdv A outer s H vs Q E hr h => ?_)
  · obtain ⟨x, y, rfl, _⟩ := h; rfl
  obtain ⟨a, b, rfl, b0, bs, q⟩ := h
  refine ⟨_, (pss_cons (ps_if (PW.pt (pw_or (pt_not (pt_val (pe_cB C_is_whole (hr.mono (by decide)) pass01 (pa_name (pv 0) pa_nil)))) (pw_or (pt_not (pt_val (pe_cB C_is_whole (hr.mono (by decide)) pass01 (pa_name (pv 1) pa_nil)))) (pw_or1 (pt_cmpR op_eq (pv 1) pe_int (nomark _)))))) (pss_one ps_never) pss_nil) (pss_cons (ps_set (i := 2) sc_ratio_of.nd rfl (Or.inl rfl) (pe_cB C_common_divisor (hr.mono (by decide)) pass01 (pa_name (pv 0) (pa_name (pv 1) pa_nil)))) (pss_cons (ps_if (pt_cmpR op_lt (pv 1) pe_int (nomark _)) (pss_one (ps_set (i := 2) sc_ratio_of.nd rfl (Or.inl rfl) (pe_op op_sub pe_int (pv 2)))) pss_nil) (pss_one (ps_ret (pe_tup (pa_bin (pe_op op_fdivW (pv 0) (pv 2)) (pa_bin (pe_op op_fdivW (pv 1) (pv 2)) pa_nil)))))))), ?_⟩
  refine ⟨_, rfl, _, _, rfl, .int a, _, rfl, ?_⟩
  refine iteF ?_
  refine ⟨_, rfl, _, _, rfl, .int b, _, rfl, ?_⟩
  refine iteF ?_
  refine ⟨_, rfl, rfl, _, rfl, ?_⟩
  refine ite2 (fun z => ?_) (fun _ => ?_)
  · exfalso
    rw [decI] at z
    exact b0 (of_decide_eq_true z)
  refine ⟨_, rfl, _, rfl, a, b, rfl, ?_⟩
  have gl := Fr.gcd_le (a := a) b0
  have gn := Fr.gcd_nn a b
  have gs : ∀ g : Int, g.natAbs = (Fr.gcd a b).natAbs → g.natAbs.log2 < 9000 := fun g hg => by
    have h2 : g.natAbs < lim := by omega
    exact lim_log h2
  have hlow : ∀ g : Int, g = Fr.sg a b → CDivW a g ∧ CDivW b g := fun g hg => by
    subst hg
    exact ⟨⟨Fr.sg_ne b0, gs _ Fr.sg_abs⟩, ⟨Fr.sg_ne b0, gs _ Fr.sg_abs⟩⟩
  refine ⟨_, rfl, _, _, rfl, rfl, _, rfl, ?_⟩
  refine ite2 (fun c2 => ?_) (fun c2 => ?_)
  · have c3 : b < 0 := of_decide_eq_true c2
    have eg : (0 : Int) - Fr.gcd a b = Fr.sg a b := by
      unfold Fr.sg
      rw [if_pos c3]
    refine ⟨_, rfl, _, _, rfl, rfl, ?_⟩
    refine ⟨_, rfl, _, rfl, _, _, rfl, rfl, (hlow _ eg).1, _, rfl, _, rfl, _, _, rfl, rfl, (hlow _ eg).2, (by show 2 ≤ sizeLine; decide), fun p hp => ?_⟩
    rw [eg]
    exact q p hp
  · have c3 : ¬ b < 0 := fun z => c2 (decide_eq_true z)
    have eg : Fr.gcd a b = Fr.sg a b := by
      unfold Fr.sg
      rw [if_neg c3]
    refine ⟨_, rfl, _, rfl, _, _, rfl, rfl, (hlow _ eg).1, _, rfl, _, rfl, _, _, rfl, rfl, (hlow _ eg).2, (by show 2 ≤ sizeLine; decide), fun p hp => ?_⟩
    rw [eg]
    exact q p hp
theorem c_sum_of (T : Txt K mg ad) : CalB P w K mg base true 3 "sum_of" ["one", "other"] (PR K (RBin fun p q => p + q)) := by
  have C_ratio_of := c_ratio_of (P := P) (w := w) (base := base) T
  refine T.t_sum_of.calN sc_sum_of (fun _ _ _ _ _ _ => by2 fun _ _ => rfl) (fun vs H Q E h => ?_) (fun f cdv A outer s H vs Q E hr h => ?_)
  · obtain ⟨_, _, dv, ⟨_, _, rfl, _⟩, _⟩ := h; exact dv.len
  obtain ⟨_, _, dv, ⟨p, q, rfl, sp, sq, rfl⟩, k⟩ := h
  obtain ⟨_, _, rfl, hx, hy⟩ := dv.two
  obtain ⟨a, rfl, ha⟩ := hx.fr
  obtain ⟨b, rfl, hb⟩ := hy.fr
  refine ⟨_, (pss_one (ps_ret (pe_cB C_ratio_of (hr.mono (by decide)) pass01 (pa_bin (pe_op op_add (pe_op op_mulW (pe_ix ix_tup (pv 0) pe_int (fun _ _ => rfl)) (pe_ix ix_tup (pv 1) pe_int (fun _ _ => rfl))) (pe_op op_mulW (pe_ix ix_tup (pv 1) pe_int (fun _ _ => rfl)) (pe_ix ix_tup (pv 0) pe_int (fun _ _ => rfl)))) (pa_bin (pe_op op_mulW (pe_ix ix_tup (pv 0) pe_int (fun _ _ => rfl)) (pe_ix ix_tup (pv 1) pe_int (fun _ _ => rfl))) pa_nil))))), ?_⟩
  refine ⟨_, rfl, a, _, _, _, rfl, rfl, ha, rfl, _, rfl, b, _, _, _, rfl, rfl, hb, rfl, _, _, rfl, rfl, mulW sp.n sq.dn, ?_⟩
  refine ⟨_, rfl, b, _, _, _, rfl, rfl, hb, rfl, _, rfl, a, _, _, _, rfl, rfl, ha, rfl, _, _, rfl, rfl, mulW sq.n sp.dn, _, _, rfl, rfl, ?_⟩
  refine ⟨_, rfl, a, _, _, _, rfl, rfl, ha, rfl, _, rfl, b, _, _, _, rfl, rfl, hb, rfl, _, _, rfl, rfl, mulW sp.dn sq.dn, ?_⟩
  refine ⟨_, _, rfl, den_mul0 p q, mul_lim sp.dn sq.dn, fun r hr => k _ _ (same_new hr _) ?_⟩
  have e := dv_low (K := K) (H := H) (t := p.num * (q.den : Int) + q.num * (p.den : Int)) (b := (p.den : Int) * (q.den : Int)) (p := r) (den_mul0 p q)
  rw [Fr.sum_rat] at e
  exact e
theorem c_less_by (T : Txt K mg ad) : CalB P w K mg base true 3 "less_by" ["one", "other"] (PR K (RBin fun p q => p - q)) := by
  have C_ratio_of := c_ratio_of (P := P) (w := w) (base := base) T
  refine T.t_less_by.calN sc_less_by (fun _ _ _ _ _ _ => by2 fun _ _ => rfl) (fun vs H Q E h => ?_) (fun f cdv A outer s H vs Q E hr h => ?_)
  · obtain ⟨_, _, dv, ⟨_, _, rfl, _⟩, _⟩ := h; exact dv.len
  obtain ⟨_, _, dv, ⟨p, q, rfl, sp, sq, rfl⟩, k⟩ := h
  obtain ⟨_, _, rfl, hx, hy⟩ := dv.two
  obtain ⟨a, rfl, ha⟩ := hx.fr
  obtain ⟨b, rfl, hb⟩ := hy.fr
  refine ⟨_, (pss_one (ps_ret (pe_cB C_ratio_of (hr.mono (by decide)) pass01 (pa_bin (pe_op op_sub (pe_op op_mulW (pe_ix ix_tup (pv 0) pe_int (fun _ _ => rfl)) (pe_ix ix_tup (pv 1) pe_int (fun _ _ => rfl))) (pe_op op_mulW (pe_ix ix_tup (pv 1) pe_int (fun _ _ => rfl)) (pe_ix ix_tup (pv 0) pe_int (fun _ _ => rfl)))) (pa_bin (pe_op op_mulW (pe_ix ix_tup (pv 0) pe_int (fun _ _ => rfl)) (pe_ix ix_tup (pv 1) pe_int (fun _ _ => rfl))) pa_nil))))), ?_⟩
  refine ⟨_, rfl, a, _, _, _, rfl, rfl, ha, rfl, _, rfl, b, _, _, _, rfl, rfl, hb, rfl, _, _, rfl, rfl, mulW sp.n sq.dn, ?_⟩
  refine ⟨_, rfl, b, _, _, _, rfl, rfl, hb, rfl, _, rfl, a, _, _, _, rfl, rfl, ha, rfl, _, _, rfl, rfl, mulW sq.n sp.dn, _, _, rfl, rfl, ?_⟩
  refine ⟨_, rfl, a, _, _, _, rfl, rfl, ha, rfl, _, rfl, b, _, _, _, rfl, rfl, hb, rfl, _, _, rfl, rfl, mulW sp.dn sq.dn, ?_⟩
  refine ⟨_, _, rfl, den_mul0 p q, mul_lim sp.dn sq.dn, fun r hr => k _ _ (same_new hr _) ?_⟩
  have e := dv_low (K := K) (H := H) (t := p.num * (q.den : Int) - q.num * (p.den : Int)) (b := (p.den : Int) * (q.den : Int)) (p := r) (den_mul0 p q)
  rw [Fr.less_rat] at e
  exact e
theorem c_product_of (T : Txt K mg ad) : CalB P w K mg base true 3 "product_of" ["one", "other"] (PR K (RBin fun p q => p * q)) := by
  have C_ratio_of := c_ratio_of (P := P) (w := w) (base := base) T
  refine T.t_product_of.calN sc_product_of (fun _ _ _ _ _ _ => by2 fun _ _ => rfl) (fun vs H Q E h => ?_) (fun f cdv A outer s H vs Q E hr h => ?_)
  · obtain ⟨_, _, dv, ⟨_, _, rfl, _⟩, _⟩ := h; exact dv.len
  obtain ⟨_, _, dv, ⟨p, q, rfl, sp, sq, rfl⟩, k⟩ := h
  obtain ⟨_, _, rfl, hx, hy⟩ := dv.two
  obtain ⟨a, rfl, ha⟩ := hx.fr
  obtain ⟨b, rfl, hb⟩ := hy.fr
  refine ⟨_, (pss_one (ps_ret (pe_cB C_ratio_of (hr.mono (by decide)) pass01 (pa_bin (pe_op op_mulW (pe_ix ix_tup (pv 0) pe_int (fun _ _ => rfl)) (pe_ix ix_tup (pv 1) pe_int (fun _ _ => rfl))) (pa_bin (pe_op op_mulW (pe_ix ix_tup (pv 0) pe_int (fun _ _ => rfl)) (pe_ix ix_tup (pv 1) pe_int (fun _ _ => rfl))) pa_nil))))), ?_⟩
  refine ⟨_, rfl, a, _, _, _, rfl, rfl, ha, rfl, _, rfl, b, _, _, _, rfl, rfl, hb, rfl, _, _, rfl, rfl, mulW sp.n sq.n, ?_⟩
  refine ⟨_, rfl, a, _, _, _, rfl, rfl, ha, rfl, _, rfl, b, _, _, _, rfl, rfl, hb, rfl, _, _, rfl, rfl, mulW sp.dn sq.dn, ?_⟩
  refine ⟨_, _, rfl, den_mul0 p q, mul_lim sp.dn sq.dn, fun r hr => k _ _ (same_new hr _) ?_⟩
  have e := dv_low (K := K) (H := H) (t := p.num * q.num) (b := (p.den : Int) * (q.den : Int)) (p := r) (den_mul0 p q)
  rw [Fr.prod_rat] at e
  exact e
theorem c_quotient_of (T : Txt K mg ad) : CalB P w K mg base true 3 "quotient_of" ["one", "other"] (PR K RQuo) := by
  have C_ratio_of := c_ratio_of (P := P) (w := w) (base := base) T
  refine T.t_quotient_of.calN sc_quotient_of (fun _ _ _ _ _ _ => by2 fun _ _ => rfl) (fun vs H Q E h => ?_) (fun f cdv A outer s H vs Q E hr h => ?_)
  · obtain ⟨_, _, dv, ⟨_, _, rfl, _⟩, _⟩ := h; exact dv.len
  obtain ⟨_, _, dv, ⟨p, q, rfl, sp, sq, q0, rfl⟩, k⟩ := h
  obtain ⟨_, _, rfl, hx, hy⟩ := dv.two
  obtain ⟨a, rfl, ha⟩ := hx.fr
  obtain ⟨b, rfl, hb⟩ := hy.fr
  refine ⟨_, (pss_one (ps_ret (pe_cB C_ratio_of (hr.mono (by decide)) pass01 (pa_bin (pe_op op_mulW (pe_ix ix_tup (pv 0) pe_int (fun _ _ => rfl)) (pe_ix ix_tup (pv 1) pe_int (fun _ _ => rfl))) (pa_bin (pe_op op_mulW (pe_ix ix_tup (pv 0) pe_int (fun _ _ => rfl)) (pe_ix ix_tup (pv 1) pe_int (fun _ _ => rfl))) pa_nil))))), ?_⟩
  refine ⟨_, rfl, a, _, _, _, rfl, rfl, ha, rfl, _, rfl, b, _, _, _, rfl, rfl, hb, rfl, _, _, rfl, rfl, mulW sp.n sq.dn, ?_⟩
  refine ⟨_, rfl, a, _, _, _, rfl, rfl, ha, rfl, _, rfl, b, _, _, _, rfl, rfl, hb, rfl, _, _, rfl, rfl, mulW sp.dn sq.n, ?_⟩
  have n0 : q.num ≠ 0 := fun e => q0 (Fr.num_zero q |>.mp e)
  have m0 : (p.den : Int) * q.num ≠ 0 := Int.mul_ne_zero (den0 p) n0
  refine ⟨_, _, rfl, m0, mul_lim sp.dn sq.n, fun r hr => k _ _ (same_new hr _) ?_⟩
  have e := dv_low (K := K) (H := H) (t := p.num * (q.den : Int)) (b := (p.den : Int) * q.num) (p := r) m0
  rw [Fr.quot_rat] at e
  exact e
theorem c_is_less (T : Txt K mg ad) : CalB P w K mg base true 1 "is_less" ["one", "other"] (PR K RLess) := by
  refine T.t_is_less.calN sc_is_less (fun _ _ _ _ _ _ => by2 fun _ _ => rfl) (fun vs H Q E h => ?_) (fun f cdv A outer s H vs Q E hr h => ?_)
  · obtain ⟨_, _, dv, ⟨_, _, rfl, _⟩, _⟩ := h; exact dv.len
  obtain ⟨_, _, dv, ⟨p, q, rfl, sp, sq, rfl⟩, k⟩ := h
  obtain ⟨_, _, rfl, hx, hy⟩ := dv.two
  obtain ⟨a, rfl, ha⟩ := hx.fr
  obtain ⟨b, rfl, hb⟩ := hy.fr
  refine ⟨_, (pss_one (ps_ret (pe_cmpR op_lt (pe_op op_mulW (pe_ix ix_tup (pv 0) pe_int (fun _ _ => rfl)) (pe_ix ix_tup (pv 1) pe_int (fun _ _ => rfl))) (pe_op op_mulW (pe_ix ix_tup (pv 1) pe_int (fun _ _ => rfl)) (pe_ix ix_tup (pv 0) pe_int (fun _ _ => rfl))) (nomark _)))), ?_⟩
  refine ⟨_, rfl, a, _, _, _, rfl, rfl, ha, rfl, _, rfl, b, _, _, _, rfl, rfl, hb, rfl, _, _, rfl, rfl, mulW sp.n sq.dn, ?_⟩
  refine ⟨_, rfl, b, _, _, _, rfl, rfl, hb, rfl, _, rfl, a, _, _, _, rfl, rfl, ha, rfl, _, _, rfl, rfl, mulW sq.n sp.dn, _, _, rfl, rfl, ?_⟩
  have e : decide (p.num * (q.den : Int) < q.num * (p.den : Int)) = decide (p < q) := decide_eq_decide.mpr (Fr.lt_rat p q)
  show Q (.bl (decide (p.num * (q.den : Int) < q.num * (p.den : Int)))) H
  rw [e]
  exact k _ _ (Same.refl _) (.bl _)
end
end K48
namespace K48
open PySem L2 Lib Fr Op
seal PE PT PW PA PS PSs PG PGs PI PO PIfs
section
variable {P : Program} {w : World} {K : PySem.W.Frag} {mg : Str → Option Value} {base : Heap} {ad : Adr} {c : Bool}
theorem k_Gap (T : Txt K mg ad) : MkC P w K mg base 1 "Gap" ad.Gap ["self", "length"] (spInit1 ad.Gap "length") := by
  refine T.ex.i_Gap.mkc sc_Gap_init (fun _ _ _ _ _ _ => by2 fun _ _ => rfl) (fun vs H Q E h => ?_) (fun f cdv A outer s H vs Q E hr h => ?_)
  · obtain ⟨a, dx, x, rfl, _⟩ := h; rfl
  obtain ⟨a, dx, x, rfl, ha, q⟩ := h
  refine ⟨_, (pss_one (ps_fldB (pv 0) (pv 1))), ?_⟩
  exact ⟨_, rfl, _, rfl, a, ad.Gap, dx, [], rfl, ha, T.ex.l_Gap, T.ex.n_Gap_length, by decide, q⟩
theorem k_Glass (T : Txt K mg ad) : MkC P w K mg base 1 "Glass" ad.Glass ["self", "strength"] (spInit1 ad.Glass "strength") := by
  refine T.ex.i_Glass.mkc sc_Glass_init (fun _ _ _ _ _ _ => by2 fun _ _ => rfl) (fun vs H Q E h => ?_) (fun f cdv A outer s H vs Q E hr h => ?_)
  · obtain ⟨a, dx, x, rfl, _⟩ := h; rfl
  obtain ⟨a, dx, x, rfl, ha, q⟩ := h
  refine ⟨_, (pss_one (ps_fldB (pv 0) (pv 1))), ?_⟩
  exact ⟨_, rfl, _, rfl, a, ad.Glass, dx, [], rfl, ha, T.ex.l_Glass, T.ex.n_Glass_strength, by decide, q⟩
theorem k_Stop (T : Txt K mg ad) : MkC P w K mg base 1 "Stop" ad.Stop ["self", "low", "high"] (spInit2 ad.Stop "low" "high") := by
  refine T.ex.i_Stop.mkc sc_Stop_init (fun _ _ _ _ _ _ => by3 fun _ _ _ => rfl) (fun vs H Q E h => ?_) (fun f cdv A outer s H vs Q E hr h => ?_)
  · obtain ⟨a, dx, x, y, rfl, _⟩ := h; rfl
  obtain ⟨a, dx, x, y, rfl, ha, q⟩ := h
  refine ⟨_, (pss_cons (ps_fldB (pv 0) (pv 1)) (pss_one (ps_fldB (pv 0) (pv 2)))), ?_⟩
  refine ⟨_, rfl, _, rfl, a, ad.Stop, dx, [], rfl, ha, T.ex.l_Stop, T.ex.n_Stop_low, by decide, ?_⟩
  refine ⟨_, rfl, _, rfl, a, ad.Stop, dx, _, rfl, upd_same, T.ex.l_Stop, T.ex.n_Stop_high, (by show 1 < 1000; decide), ?_⟩
  rw [upd_upd]
  exact q
theorem mc_Gap_lets (T : Txt K mg ad) : MC P w K mg base 4 ad.Gap "lets" ["self", "ray"] spYes := by
  refine T.ex.q_Gap_lets.mc sc_Piece_lets (fun _ _ _ _ _ _ => by2 fun _ _ => rfl) (fun vs H Q E h => ?_) (fun f cdv A outer s H vs Q E hr h => ?_)
  · obtain ⟨x, y, rfl, _⟩ := h; rfl
  obtain ⟨x, y, rfl, q⟩ := h
  exact ⟨_, (pss_one (ps_ret pe_bl)), q⟩
theorem mc_Glass_lets (T : Txt K mg ad) : MC P w K mg base 4 ad.Glass "lets" ["self", "ray"] spYes := by
  refine T.ex.q_Glass_lets.mc sc_Piece_lets (fun _ _ _ _ _ _ => by2 fun _ _ => rfl) (fun vs H Q E h => ?_) (fun f cdv A outer s H vs Q E hr h => ?_)
  · obtain ⟨x, y, rfl, _⟩ := h; rfl
  obtain ⟨x, y, rfl, q⟩ := h
  exact ⟨_, (pss_one (ps_ret pe_bl)), q⟩
theorem mc_Stop_lets (T : Txt K mg ad) : MC P w K mg base 4 ad.Stop "lets" ["self", "ray"] (spOb K ad.Gap ad.Glass ad.Stop (fun p r => .bool (p.lets r)) isStop) := by
  have C_is_less := c_is_less (P := P) (w := w) (base := base) T
  refine T.ex.q_Stop_lets.mc sc_Stop_lets (fun _ _ _ _ _ _ => by2 fun _ _ => rfl) (fun vs H Q E h => ?_) (fun f cdv A outer s H vs Q E hr h => ?_)
  · obtain ⟨_, _, _, _, _, _, rfl, _⟩ := h; rfl
  obtain ⟨o, y, p, r, n, m, rfl, hc, ho, hy, rb, pb, hnm, k⟩ := h
  cases ho with
  | gap _ _ => exact hc.elim
  | glass _ _ => exact hc.elim
  | @stop a dx x1 x2 lo hi ha h1 h2 =>
    obtain ⟨ra, y1, y2, rfl, hra, hy1, hy2⟩ := hy.t2
    refine ⟨_, (pss_one (ps_ret (pe_and (pe_not (pe_cB C_is_less (hr.mono (by decide)) pass01 (pa_sub (pe_ix ix_tup (pv 1) pe_int (fun _ _ => rfl)) (pa_cons (pe_fldB (pv 0)) pa_nil)))) (pe_one (pe_not (pe_cB C_is_less (hr.mono (by decide)) pass01 (pa_cons (pe_fldB (pv 0)) (pa_sub (pe_ix ix_tup (pv 1) pe_int (fun _ _ => rfl)) pa_nil)))))))), ?_⟩
    refine ⟨_, rfl, ra, _, _, _, rfl, rfl, hra, rfl, _, rfl, a, _, _, _, _, rfl, ha, T.ex.l_Stop, T.ex.n_Stop_low, rfl, ?_⟩
    refine ⟨_, _, .cons hy1 (.cons h1 .nil), ⟨_, _, rfl, rb.y.sm (le_a hnm), pb.1.sm (le_b hnm), rfl⟩, fun v H1 s1 hv => ?_⟩
    obtain rfl := hv.bl_of
    refine ⟨_, rfl, _, rfl, ?_⟩
    cases c1 : decide (r.1 < lo) with
    | true =>
      refine iteF ?_
      refine k _ _ s1 ?_
      have e : (Pc.stop lo hi).lets r = false := by show (!decide (r.1 < lo) && _) = false; rw [c1]; rfl
      show DV K _ _ (.bool ((Pc.stop lo hi).lets r))
      rw [e]
      exact .bl _
    | false =>
      refine iteT ?_
      refine ⟨_, rfl, a, _, _, _, _, rfl, s1 _ _ ha, T.ex.l_Stop, T.ex.n_Stop_high, rfl, _, rfl, ra, _, _, _, rfl, rfl, hra.keep s1, rfl, ?_⟩
      refine ⟨_, _, .cons (h2.keep s1) (.cons (hy1.keep s1) .nil), ⟨_, _, rfl, pb.2.sm (le_b hnm), rb.y.sm (le_a hnm), rfl⟩, fun v H2 s2 hv => ?_⟩
      obtain rfl := hv.bl_of
      refine ⟨_, rfl, ?_⟩
      refine k _ _ (s1.trans s2) ?_
      have e : (Pc.stop lo hi).lets r = !decide (hi < r.1) := by show (!decide (r.1 < lo) && _) = _; rw [c1]; rfl
      show DV K _ _ (.bool ((Pc.stop lo hi).lets r))
      rw [e]
      exact .bl _
theorem mc_Stop_bent (T : Txt K mg ad) : MC P w K mg base 4 ad.Stop "bent" ["self", "ray"] spId := by
  refine T.ex.q_Stop_bent.mc sc_Piece_bent (fun _ _ _ _ _ _ => by2 fun _ _ => rfl) (fun vs H Q E h => ?_) (fun f cdv A outer s H vs Q E hr h => ?_)
  · obtain ⟨x, y, rfl, _⟩ := h; rfl
  obtain ⟨x, y, rfl, q⟩ := h
  exact ⟨_, (pss_one (ps_ret (pv 1))), _, rfl, q⟩
theorem mc_Gap_bent (T : Txt K mg ad) : MC P w K mg base 4 ad.Gap "bent" ["self", "ray"] (spOb K ad.Gap ad.Glass ad.Stop (fun p r => rayD (p.bent r)) isGap) := by
  have C_sum_of := c_sum_of (P := P) (w := w) (base := base) T
  have C_product_of := c_product_of (P := P) (w := w) (base := base) T
  refine T.ex.q_Gap_bent.mc sc_Gap_bent (fun _ _ _ _ _ _ => by2 fun _ _ => rfl) (fun vs H Q E h => ?_) (fun f cdv A outer s H vs Q E hr h => ?_)
  · obtain ⟨_, _, _, _, _, _, rfl, _⟩ := h; rfl
  obtain ⟨o, y, p, r, n, m, rfl, hc, ho, hy, rb, pb, hnm, k⟩ := h
  cases ho with
  | glass _ _ => exact hc.elim
  | stop _ _ _ => exact hc.elim
  | @gap a dx x1 d ha h1 =>
    have pb : Bd m d := pb
    obtain ⟨ra, y1, y2, rfl, hra, hy1, hy2⟩ := hy.t2
    refine ⟨_, (pss_one (ps_ret (pe_tup (pa_call (pe_cB C_sum_of (hr.mono (by decide)) pass01 (pa_sub (pe_ix ix_tup (pv 1) pe_int (fun _ _ => rfl)) (pa_call (pe_cB C_product_of (hr.mono (by decide)) pass01 (pa_cons (pe_fldB (pv 0)) (pa_sub (pe_ix ix_tup (pv 1) pe_int (fun _ _ => rfl)) pa_nil))) pa_nil))) (pa_sub (pe_ix ix_tup (pv 1) pe_int (fun _ _ => rfl)) pa_nil))))), ?_⟩
    refine ⟨_, rfl, ra, _, _, _, rfl, rfl, hra, rfl, ?_⟩
    refine ⟨_, rfl, a, _, _, _, _, rfl, ha, T.ex.l_Gap, T.ex.n_Gap_length, rfl, _, rfl, ra, _, _, _, rfl, rfl, hra, rfl, ?_⟩
    refine ⟨_, _, .cons h1 (.cons hy2 .nil), ⟨_, _, rfl, pb.sm (le_b hnm), rb.u.sm (le_a hnm), rfl⟩, fun v H1 s1 hv => ?_⟩
    refine ⟨_, _, .cons (hy1.keep s1) (.cons hv .nil), ⟨_, _, rfl, rb.y.sm (le_a hnm), (pb.mul rb.u).sm (le_ba hnm), rfl⟩, fun v2 H2 s2 hv2 => ?_⟩
    refine ⟨_, rfl, ra, _, _, _, rfl, rfl, hra.keep (s1.trans s2), rfl, (by show 2 ≤ sizeLine; decide), fun t ht => ?_⟩
    exact k _ _ ((s1.trans s2).trans (same_new ht _)) (DV.upd2 ht hv2 (hy2.keep (s1.trans s2)))
theorem mc_Glass_bent (T : Txt K mg ad) : MC P w K mg base 4 ad.Glass "bent" ["self", "ray"] (spOb K ad.Gap ad.Glass ad.Stop (fun p r => rayD (p.bent r)) isGlass) := by
  have C_less_by := c_less_by (P := P) (w := w) (base := base) T
  have C_product_of := c_product_of (P := P) (w := w) (base := base) T
  refine T.ex.q_Glass_bent.mc sc_Glass_bent (fun _ _ _ _ _ _ => by2 fun _ _ => rfl) (fun vs H Q E h => ?_) (fun f cdv A outer s H vs Q E hr h => ?_)
  · obtain ⟨_, _, _, _, _, _, rfl, _⟩ := h; rfl
  obtain ⟨o, y, p, r, n, m, rfl, hc, ho, hy, rb, pb, hnm, k⟩ := h
  cases ho with
  | gap _ _ => exact hc.elim
  | stop _ _ _ => exact hc.elim
  | @glass a dx x1 d ha h1 =>
    have pb : Bd m d := pb
    obtain ⟨ra, y1, y2, rfl, hra, hy1, hy2⟩ := hy.t2
    refine ⟨_, (pss_one (ps_ret (pe_tup (pa_sub (pe_ix ix_tup (pv 1) pe_int (fun _ _ => rfl)) (pa_call (pe_cB C_less_by (hr.mono (by decide)) pass01 (pa_sub (pe_ix ix_tup (pv 1) pe_int (fun _ _ => rfl)) (pa_call (pe_cB C_product_of (hr.mono (by decide)) pass01 (pa_cons (pe_fldB (pv 0)) (pa_sub (pe_ix ix_tup (pv 1) pe_int (fun _ _ => rfl)) pa_nil))) pa_nil))) pa_nil))))), ?_⟩
    refine ⟨_, rfl, ra, _, _, _, rfl, rfl, hra, rfl, ?_⟩
    refine ⟨_, rfl, ra, _, _, _, rfl, rfl, hra, rfl, ?_⟩
    refine ⟨_, rfl, a, _, _, _, _, rfl, ha, T.ex.l_Glass, T.ex.n_Glass_strength, rfl, _, rfl, ra, _, _, _, rfl, rfl, hra, rfl, ?_⟩
    refine ⟨_, _, .cons h1 (.cons hy1 .nil), ⟨_, _, rfl, pb.sm (le_b hnm), rb.y.sm (le_a hnm), rfl⟩, fun v H1 s1 hv => ?_⟩
    refine ⟨_, _, .cons (hy2.keep s1) (.cons hv .nil), ⟨_, _, rfl, rb.u.sm (le_a hnm), (pb.mul rb.y).sm (le_ba hnm), rfl⟩, fun v2 H2 s2 hv2 => ?_⟩
    refine ⟨(by show 2 ≤ sizeLine; decide), fun t ht => ?_⟩
    exact k _ _ ((s1.trans s2).trans (same_new ht _)) (DV.upd2 ht (hy1.keep (s1.trans s2)) hv2)
theorem ob_lets (T : Txt K mg ad) {H : Hp} {v y : V} {p : Pc} {r : Ray} {n m : Nat} (h : ObAt K ad.Gap ad.Glass ad.Stop H v p) (hy : DV K H y (rayD r)) (rb : RB n r) (pb : p.bd m) (hnm : n + m ≤ 3900) :
    ∃ (a C dx : Addr) (fs : List (Str × V)) (ps : List Str) (sp : Sp), v = .ref a ∧ H a = some (.ins C dx fs) ∧ fs.lookup ("lets" : Str) = none ∧ MC P w K mg base 4 C "lets" ps sp ∧ ∀ Q : VK, (∀ H', Same H H' → Q (.bl (p.lets r)) H') → sp [v, y] H Q E0 := by
  cases id h with
  | gap ha hx => exact ⟨_, _, _, _, _, _, rfl, ha, rfl, mc_Gap_lets T, fun Q k => ⟨_, _, rfl, k _ (Same.refl _)⟩⟩
  | glass ha hx => exact ⟨_, _, _, _, _, _, rfl, ha, rfl, mc_Glass_lets T, fun Q k => ⟨_, _, rfl, k _ (Same.refl _)⟩⟩
  | stop ha hx hz => exact ⟨_, _, _, _, _, _, rfl, ha, rfl, mc_Stop_lets T, fun Q k => ⟨_, _, .stop _ _, r, n, m, rfl, trivial, h, hy, rb, pb, hnm, fun v H' s' hv => by obtain rfl := hv.bl_of; exact k _ s'⟩⟩
theorem ob_bent (T : Txt K mg ad) {H : Hp} {v y : V} {p : Pc} {r : Ray} {n m : Nat} (h : ObAt K ad.Gap ad.Glass ad.Stop H v p) (hy : DV K H y (rayD r)) (rb : RB n r) (pb : p.bd m) (hnm : n + m ≤ 3900) :
    ∃ (a C dx : Addr) (fs : List (Str × V)) (ps : List Str) (sp : Sp), v = .ref a ∧ H a = some (.ins C dx fs) ∧ fs.lookup ("bent" : Str) = none ∧ MC P w K mg base 4 C "bent" ps sp ∧ ∀ Q : VK, (∀ v H', Same H H' → DV K H' v (rayD (p.bent r)) → Q v H') → sp [v, y] H Q E0 := by
  cases id h with
  | gap ha hx => exact ⟨_, _, _, _, _, _, rfl, ha, rfl, mc_Gap_bent T, fun Q k => ⟨_, _, .gap _, r, n, m, rfl, trivial, h, hy, rb, pb, hnm, k⟩⟩
  | glass ha hx => exact ⟨_, _, _, _, _, _, rfl, ha, rfl, mc_Glass_bent T, fun Q k => ⟨_, _, .glass _, r, n, m, rfl, trivial, h, hy, rb, pb, hnm, k⟩⟩
  | stop ha hx hz => exact ⟨_, _, _, _, _, _, rfl, ha, rfl, mc_Stop_bent T, fun Q k => ⟨_, _, rfl, k _ _ (Same.refl _) hy⟩⟩
theorem c_piece_of (T : Txt K mg ad) : CalB P w K mg base true 3 "piece_of" ["told"] (spPc K ad.Gap ad.Glass ad.Stop) := by
  have M_Gap := k_Gap (P := P) (w := w) (base := base) T
  have M_Glass := k_Glass (P := P) (w := w) (base := base) T
  have M_Stop := k_Stop (P := P) (w := w) (base := base) T
  refine T.t_piece_of.calN sc_piece_of (fun _ _ _ _ _ _ => by1 fun _ => rfl) (fun vs H Q E h => ?_) (fun f cdv A outer s H vs Q E hr h => ?_)
  · obtain ⟨v, p, rfl, _⟩ := h; rfl
  obtain ⟨v, p, rfl, hv, q⟩ := h
  refine ⟨_, (pss_cons (ps_if (pt_cmpR op_eq (pe_ix ix_tup (pv 0) pe_int (fun _ _ => rfl)) (pe_glob (v := .str "gap") rfl T.ex.m_GAP ⟨_, rfl⟩) (nomark _)) (pss_one (ps_ret (pe_mkB M_Gap (hr.mono (by decide)) (pa_sub (pe_ix ix_tup (pv 0) pe_int (fun _ _ => rfl)) pa_nil)))) pss_nil) (pss_cons (ps_if (pt_cmpR op_eq (pe_ix ix_tup (pv 0) pe_int (fun _ _ => rfl)) (pe_glob (v := .str "glass") rfl T.ex.m_GLASS ⟨_, rfl⟩) (nomark _)) (pss_one (ps_ret (pe_mkB M_Glass (hr.mono (by decide)) (pa_sub (pe_ix ix_tup (pv 0) pe_int (fun _ _ => rfl)) pa_nil)))) pss_nil) (pss_one (ps_ret (pe_mkB M_Stop (hr.mono (by decide)) (pa_sub (pe_ix ix_tup (pv 0) pe_int (fun _ _ => rfl)) (pa_sub (pe_ix ix_tup (pv 0) pe_int (fun _ _ => rfl)) pa_nil))))))), ?_⟩
  cases p with
  | gap d =>
    obtain ⟨a, x, y, rfl, ha, hx, hy⟩ := DV.t2 hv
    obtain rfl := hx.str_of
    refine ⟨_, rfl, a, _, _, _, rfl, rfl, ha, rfl, rfl, _, rfl, iteT' (by decide) ?_⟩
    refine ⟨_, rfl, a, _, _, _, rfl, rfl, ha, rfl, fun o dx ho hdx hne => ⟨o, dx, y, rfl, upd_same, rfl, ?_⟩⟩
    have s1 : Same H (upd H dx (.own o)) := same_new hdx _
    have ho' : upd H dx (.own o) o = none := by rw [upd_ne (Ne.symm hne)]; exact ho
    have s2 := s1.trans (same_new ho' (.ins ad.Gap dx [("length", y)]))
    rw [upd_upd]
    exact q _ _ s2 (.gap upd_same (hy.keep s2))
  | glass d =>
    obtain ⟨a, x, y, rfl, ha, hx, hy⟩ := DV.t2 hv
    obtain rfl := hx.str_of
    refine ⟨_, rfl, a, _, _, _, rfl, rfl, ha, rfl, rfl, _, rfl, iteF' (by decide) ?_⟩
    refine ⟨_, rfl, a, _, _, _, rfl, rfl, ha, rfl, rfl, _, rfl, iteT' (by decide) ?_⟩
    refine ⟨_, rfl, a, _, _, _, rfl, rfl, ha, rfl, fun o dx ho hdx hne => ⟨o, dx, y, rfl, upd_same, rfl, ?_⟩⟩
    have s1 : Same H (upd H dx (.own o)) := same_new hdx _
    have ho' : upd H dx (.own o) o = none := by rw [upd_ne (Ne.symm hne)]; exact ho
    have s2 := s1.trans (same_new ho' (.ins ad.Glass dx [("strength", y)]))
    rw [upd_upd]
    exact q _ _ s2 (.glass upd_same (hy.keep s2))
  | stop lo hi =>
    obtain ⟨a, x, y, z, rfl, ha, hx, hy, hz⟩ := DV.t3 hv
    obtain rfl := hx.str_of
    refine ⟨_, rfl, a, _, _, _, rfl, rfl, ha, rfl, rfl, _, rfl, iteF' (by decide) ?_⟩
    refine ⟨_, rfl, a, _, _, _, rfl, rfl, ha, rfl, rfl, _, rfl, iteF' (by decide) ?_⟩
    refine ⟨_, rfl, a, _, _, _, rfl, rfl, ha, rfl, _, rfl, a, _, _, _, rfl, rfl, ha, rfl, fun o dx ho hdx hne => ⟨o, dx, y, z, rfl, upd_same, rfl, ?_⟩⟩
    have s1 : Same H (upd H dx (.own o)) := same_new hdx _
    have ho' : upd H dx (.own o) o = none := by rw [upd_ne (Ne.symm hne)]; exact ho
    have s2 := s1.trans (same_new ho' (.ins ad.Stop dx [("low", y), ("high", z)]))
    rw [upd_upd]
    exact q _ _ s2 (.stop upd_same (hy.keep s2) (hz.keep s2))
theorem c_is_piece (T : Txt K mg ad) : CalB P w K mg base true 3 "is_piece" ["thing"] (spPieceG K) := by
  have C_is_ratio := c_is_ratio (P := P) (w := w) (base := base) T
  have C_is_less := c_is_less (P := P) (w := w) (base := base) T
  refine T.t_is_piece.calN sc_is_piece (fun _ _ _ _ _ _ => by1 fun _ => rfl) (fun vs H Q E h => ?_) (fun f cdv A outer s H vs Q E hr h => ?_)
  · obtain ⟨_, _, _, rfl, _⟩ := h; rfl
  obtain ⟨v, pc, m, rfl, hv, ok, pb, hm, q⟩ := h
  obtain ⟨z, es, ee, sh⟩ := pc_shape ok pb
  rw [ee] at hv
  obtain ⟨a, xs, rfl, ha, hds⟩ := hv.tup_of
  obtain ⟨x0, xr, rfl, h0, hr'⟩ := hds.cons_of
  obtain rfl := h0.str_of
  have hl := hr'.len
  rw [List.length_map] at hl
  have hl2 := sh.len
  obtain ⟨tR, hR, kR⟩ : ∃ t, PSs (cxB true P w K mg base ["thing"] "is_piece" (defScope s_is_piece) f cdv A outer s H E).nox ((defBody s_is_piece).drop 2) t ∧ ∀ (D : Ends) (H2 : Hp), Same H H2 → (∀ H', Same H H' → D.rt (.bl true) H') → t D [some (.ref a)] H2 := by
    refine ⟨_, (pss_cons (ps_if (pt_cmpR op_eq (pe_ix ix_tup (pv 0) pe_int (fun _ _ => rfl)) (pe_glob (v := .str "stop") rfl T.ex.m_STOP ⟨_, rfl⟩) (nomark _)) (pss_one (ps_ret (pe_and (pe_cmpR op_eq (pe_callB call_len_seq rfl T.len bt_len (pa_name (pv 0) pa_nil)) pe_int (nomark _)) (pe_one (pe_not (pe_cB C_is_less (hr.mono (by decide)) pass01 (pa_sub (pe_ix ix_tup (pv 0) pe_int (fun _ _ => rfl)) (pa_sub (pe_ix ix_tup (pv 0) pe_int (fun _ _ => rfl)) pa_nil)))))))) pss_nil) (pss_one (ps_ret (pe_and (pe_cmpR op_in_seq (pe_ix ix_tup (pv 0) pe_int (fun _ _ => rfl)) (pe_tup (pa_name (pe_glob (v := .str "gap") rfl T.ex.m_GAP ⟨_, rfl⟩) (pa_name (pe_glob (v := .str "glass") rfl T.ex.m_GLASS ⟨_, rfl⟩) pa_nil))) (by rfl)) (pe_one (pe_cmpR op_eq (pe_callB call_len_seq rfl T.len bt_len (pa_name (pv 0) pa_nil)) pe_int (nomark _))))))), ?_⟩
    intro D H2 t2 q
    refine ⟨_, rfl, a, _, _, _, rfl, rfl, ha.keep t2, atI0, rfl, _, rfl, ?_⟩
    rw [decS]
    cases sh with
    | stop nlt blo bhi =>
      obtain ⟨x1, x2, rfl, h1, h2⟩ := hr'.two
      refine iteT' (by decide) ?_
      refine ⟨_, rfl, a, _, rfl, .inr (ha.keep t2), rfl, _, rfl, iteT ?_⟩
      refine ⟨_, rfl, a, _, _, _, rfl, rfl, ha.keep t2, rfl, _, rfl, a, _, _, _, rfl, rfl, ha.keep t2, rfl, ?_⟩
      refine ⟨_, _, .cons (h2.keep t2) (.cons (h1.keep t2) .nil), ⟨_, _, rfl, bhi.sm hm, blo.sm hm, rfl⟩, fun v H3 s3 hv => ?_⟩
      obtain rfl := hv.bl_of
      refine ⟨_, rfl, ?_⟩
      rw [decide_eq_false nlt]
      exact q _ (t2.trans s3)
    | one e1 e2 =>
      refine iteF' e1 ?_
      refine ⟨_, rfl, a, _, _, _, rfl, rfl, ha.keep t2, atI0, (by show 2 ≤ sizeLine; decide), fun p3 hp3 => ?_⟩
      have t3 := t2.trans (same_new hp3 (.tup [.str "gap", .str "glass"]))
      refine ⟨p3, _, rfl, .inr (SqT.of upd_same), rfl, rfl, _, rfl, iteT' ((in_words z).trans e2) ?_⟩
      refine ⟨_, rfl, a, _, rfl, .inr (ha.keep t3), rfl, ?_⟩
      have el2 : xr.length = 1 := hl
      show D.rt (.bl (decide (V.int ((xr.length + 1 : Nat) : Int) = V.int 2))) _
      rw [el2]
      exact q _ t3
  refine ⟨_, (pss_cons (ps_if (PW.pt (pw_or (pt_not (pt_val (pe_callB call_isiD rfl T.isinstance bt_isinstance (pa_name (pv 0) (pa_name (pe_bltn (v := .ty "tuple") rfl T.tuple bt_tuple rfl) pa_nil))))) (pw_or (pt_cmpR op_lt (pe_callB call_len_seq rfl T.len bt_len (pa_name (pv 0) pa_nil)) pe_int (nomark _)) (pw_or1 (pt_not (pt_val (pe_callB call_isiD rfl T.isinstance bt_isinstance (pa_sub (pe_ix ix_tup (pv 0) pe_int (fun _ _ => rfl)) (pa_name (pe_bltn (v := .ty "str") rfl T.str bt_str rfl) pa_nil))))))))) (pss_one (ps_ret pe_bl)) pss_nil) (pss_cons (ps_if (pt_not (pt_val (pe_callB (call_all rfl) rfl T.all bt_all (pa_cons (pe_comp ["part"] [none] rfl (pi_tup (pe_slice sl_tup (pv 0) (po_some pe_int) po_none)) (fun _ _ _ _ _ => (pg_name (i := 0) (show List.Nodup [("part" : Str)] by decide) rfl (by first | exact Or.inl rfl | exact Or.inr rfl))) (fun _ _ _ _ _ => pifs_nil) (fun _ _ _ _ _ => (pe_cB C_is_ratio (hr.mono (by decide)) pass01 (pa_name (pv 0) pa_nil))) (cap_nil (by decide) (by decide)) (by decide) rfl (by decide) rfl (nocap rfl)) pa_nil)))) (pss_one (ps_ret pe_bl)) pss_nil) hR)), ?_⟩
  refine ⟨_, rfl, _, _, _, _, rfl, hv, isTup_b _, _, rfl, iteF ?_⟩
  refine ⟨_, rfl, a, _, rfl, .inr ha, _, _, rfl, rfl, _, rfl, iteF' (decide_eq_false (by simp only [List.length_cons]; omega)) ?_⟩
  refine ⟨_, rfl, a, _, _, _, rfl, rfl, ha, atI0, _, _, _, _, rfl, h0, isStr_b _, _, rfl, iteF ?_⟩
  refine ⟨_, rfl, _, rfl, a, _, rfl, ha, (fun e => by rw [sIx1] at e; simp only [List.length_cons] at e; omega), fun p hp => ⟨p, rfl, ⟨_, SqT.of upd_same⟩, ?_⟩⟩
  rw [cut1]
  have u1 := same_new hp (.tup ((V.str z :: xr).drop 1))
  have hparts := hr'.keep u1
  have hp' : upd H p (.tup ((V.str z :: xr).drop 1)) p = some (.tup xr) := upd_same
  generalize upd H p (.tup ((V.str z :: xr).drop 1)) = H1 at u1 hparts hp' ⊢
  refine comp_tup0 (K := K) (a := p) (xs := xr) (fun i σ ys H' => ∃ c0, σ = [c0] ∧ ys = List.replicate i (V.bl true) ∧ Same H1 H') ⟨_, rfl, rfl, Same.refl _⟩ ?_ ?_ ?_
  · rintro i σ ys H' hi ⟨c0, rfl, rfl, s'⟩
    refine ⟨?_, SqT.of (s' _ _ hp')⟩
    have z2 := small1000 (n := 1000) (by decide)
    rw [List.length_replicate]
    omega
  · rintro i x σ ys H' hi ⟨c0, rfl, rfl, s'⟩
    obtain ⟨dx, hdx, hx⟩ := hparts.get hi
    obtain ⟨q0, rfl⟩ := get_fr hdx
    exact ⟨_, rfl, _, q0, rfl, hx.keep s', nx (lt_of_get hi) ⟨_, rfl, List.replicate_succ'.symm, s'⟩⟩
  · rintro σ ys H' p2 ⟨c0, rfl, rfl, s'⟩ hp2
    have u2 := same_new hp2 (.lst (List.replicate xr.length (V.bl true)))
    refine ⟨p2, List.replicate xr.length true, rfl, SqL.of (by rw [rep_map]; exact upd_same), _, rfl, ?_⟩
    rw [all_rep]
    exact iteF (kR _ _ (u1.trans (s'.trans u2)) q)
theorem c_look_at (T : Txt K mg ad) : CalB P w K mg base true 4 "look_at" ["bench"] (spLook K) := by
  have C_is_piece := c_is_piece (P := P) (w := w) (base := base) T
  refine T.t_look_at.calN sc_look_at (fun _ _ _ _ _ _ => by1 fun _ => rfl) (fun vs H Q E h => ?_) (fun f cdv A outer s H vs Q E hr h => ?_)
  · obtain ⟨_, _, _, rfl, _⟩ := h; rfl
  obtain ⟨v, ps, m, rfl, hv, g, hm, q⟩ := h
  obtain ⟨a, xs, rfl, ha, hxs⟩ := DV.lst_of hv
  have hl : xs.length = ps.length := by have := hxs.len; rw [List.length_map] at this; exact this
  have gl := g.len
  refine ⟨_, (pss_cons (ps_if (PW.pt (pw_or (pt_not (pt_val (pe_callB call_isiD rfl T.isinstance bt_isinstance (pa_name (pv 0) (pa_name (pe_bltn (v := .ty "list") rfl T.list bt_list rfl) pa_nil))))) (pw_or1 (pt_cmpR op_gt (pe_callB call_len_seq rfl T.len bt_len (pa_name (pv 0) pa_nil)) (pe_glob (v := .int 60) rfl T.ex.m_MOST_PIECES ⟨_, rfl⟩) (nomark _))))) (pss_one ps_never) pss_nil) (pss_one (ps_for PassesOwn.never rfl (pi_enum rfl T.enumerate (pa_name (pv 0) pa_nil)) (pg_tup (n := 2) rfl (pgs_cons (pg_name (i := 1) sc_look_at.nd rfl (by first | exact Or.inl rfl | exact Or.inr rfl)) (pgs_cons (pg_name (i := 2) sc_look_at.nd rfl (by first | exact Or.inl rfl | exact Or.inr rfl)) pgs_nil))) (pss_one (ps_if (pt_not (pt_val (pe_cB C_is_piece (hr.mono (by decide)) pass01 (pa_name (pv 2) pa_nil)))) (pss_one ps_never) pss_nil))))), ?_⟩
  refine ⟨_, rfl, _, _, _, _, rfl, hv, isLst_b _, _, rfl, ?_⟩
  refine iteF ?_
  refine ⟨_, rfl, a, _, rfl, .inl ha, _, _, rfl, rfl, _, rfl, iteF' (decide_eq_false (by omega)) ?_⟩
  refine ⟨_, rfl, a, rfl, ⟨_, ha⟩, ?_⟩
  refine for_enum (K := K) (a := a) (xs := xs) (fun i σ H' => ∃ c1 c2, σ = [some (.ref a), c1, c2] ∧ Same H H') ⟨_, _, rfl, Same.refl _⟩ ?_ ?_ ?_
  · rintro i σ H' hi ⟨c1, c2, rfl, s1⟩
    exact ha.keep s1
  · rintro i x σ H' p hi ⟨c1, c2, rfl, s1⟩ hp
    obtain ⟨d, hd, hx⟩ := hxs.get hi
    obtain ⟨pc, hpc, rfl⟩ := get_map_pc hd
    have hmem := List.mem_of_getElem? hpc
    have s2 := s1.trans (same_new hp (.tup [.int i, x]))
    refine ⟨p, _, rfl, SqT.of upd_same, rfl, _, _, rfl, _, _, rfl, rfl, ?_⟩
    exact ⟨_, rfl, _, _, _, rfl, hx.keep s2, g.ok _ hmem, g.bd _ hmem, hm, fun H3 s3 => ⟨_, rfl, iteF ⟨_, _, rfl, s2.trans s3⟩⟩⟩
  · rintro σ H' ⟨c1, c2, rfl, s1⟩
    exact q _ s1
theorem c_walk_of (T : Txt K mg ad) : CalB P w K mg base true 5 "walk_of" ["bench", "ray"] (spWalk K) := by
  have C_look_at := c_look_at (P := P) (w := w) (base := base) T
  have C_piece_of := c_piece_of (P := P) (w := w) (base := base) T
  refine T.t_walk_of.calN sc_walk_of (fun _ _ _ _ _ _ => by2 fun _ _ => rfl) (fun vs H Q E h => ?_) (fun f cdv A outer s H vs Q E hr h => ?_)
  · obtain ⟨_, _, _, _, _, _, rfl, _⟩ := h; rfl
  obtain ⟨b, y, ps, r, n, m, rfl, hb, g, hy, rb, hnm, q⟩ := h
  obtain ⟨a, xs, rfl, ha, hxs⟩ := DV.lst_of hb
  have hl : xs.length = ps.length := by have := hxs.len; rw [List.length_map] at this; exact this
  have gl := g.len
  refine ⟨_, (pss_cons (ps_expr (pe_cB C_look_at (hr.mono (by decide)) pass01 (pa_name (pv 0) pa_nil))) (pss_cons (ps_set (i := 2) sc_walk_of.nd rfl (Or.inl rfl) (pe_lst (pa_name (pv 1) pa_nil))) (pss_cons (ps_for PassesOwn.never rfl (pi_enum rfl T.enumerate (pa_name (pv 0) pa_nil)) (pg_tup (n := 2) rfl (pgs_cons (pg_name (i := 3) sc_walk_of.nd rfl (by first | exact Or.inl rfl | exact Or.inr rfl)) (pgs_cons (pg_name (i := 4) sc_walk_of.nd rfl (by first | exact Or.inl rfl | exact Or.inr rfl)) pgs_nil))) (pss_cons (ps_set (i := 5) sc_walk_of.nd rfl (Or.inl rfl) (pe_cB C_piece_of (hr.mono (by decide)) pass01 (pa_name (pv 4) pa_nil))) (pss_cons (ps_if (pt_not (pt_val (pe_mB (k := 4) (pv 5) (hr.mono (by decide)) (pa_name (pv 1) pa_nil)))) (pss_one (ps_ret (pe_tup (pa_name (pv 2) (pa_name (pv 3) pa_nil))))) pss_nil) (pss_cons (ps_set (i := 1) sc_walk_of.nd rfl (Or.inl rfl) (pe_mB (k := 4) (pv 5) (hr.mono (by decide)) (pa_name (pv 1) pa_nil))) (pss_one (ps_expr (pe_bm PySem.F.plainAttrs_list PySem.F.slot_list_append PySem.F.type_list_append mt_append (pv 2) (pa_name (pv 1) pa_nil)))))))) (pss_one (ps_ret (pe_tup (pa_name (pv 2) (pa_const pe_non pa_nil)))))))), ?_⟩
  refine ⟨_, rfl, _, ps, m, rfl, hb, g, by omega, fun H1 s1 => ?_⟩
  refine ⟨_, rfl, (by show 1 ≤ sizeLine; decide), fun l hl1 => ?_⟩
  have nl : H l = none := s1.free hl1
  have s2 := s1.trans (same_new hl1 (.lst [y]))
  refine ⟨_, rfl, a, rfl, ⟨_, ha.keep s2⟩, ?_⟩
  refine for_enum (K := K) (a := a) (xs := xs) (fun i σ H' => ∃ c1 c2 c3 v cur tr vs, σ = [some (.ref a), some v, some (.ref l), c1, c2, c3] ∧ Same H H' ∧ H' l = some (.lst vs) ∧ DVs K H' vs ((r :: tr).map rayD) ∧ DV K H' v (rayD cur) ∧ At ps r i tr cur ∧ RB (n + i * (m + 1)) cur ∧ tr.length ≤ i) ⟨_, _, _, y, r, [], [y], rfl, s2, upd_same, .cons (hy.keep s2) .nil, hy.keep s2, at_0 ps r, by simpa using rb, Nat.le_refl _⟩ ?_ ?_ ?_
  · rintro i σ H' hi ⟨c1, c2, c3, v, cur, tr, vs, rfl, s3, _⟩
    exact ha.keep s3
  · rintro i x σ H' p hi ⟨c1, c2, c3, v, cur, tr, vs, rfl, s3, hlv, hvs, hv, hat, hrb, htr⟩ hp
    obtain ⟨d, hd, hx⟩ := hxs.get hi
    obtain ⟨pc, hpc, rfl⟩ := get_map_pc hd
    have hmem := List.mem_of_getElem? hpc
    have hi' := lt_of_get hpc
    have up := same_new hp (.tup [.int i, x])
    have s4 := s3.trans up
    have bi := bi_le hnm hi'
    refine ⟨p, _, rfl, SqT.of upd_same, rfl, _, _, rfl, _, _, rfl, rfl, ?_⟩
    refine ⟨_, rfl, _, pc, rfl, hx.keep s4, fun o H5 s5 ho => ?_⟩
    have s45 := up.trans s5
    obtain ⟨oa, C, dx, fs, pps, sp, e1, e2, e3, M, hsp⟩ := ob_lets (P := P) (w := w) (base := base) T ho (hv.keep s45) hrb (g.bd _ hmem) bi
    refine ⟨_, rfl, oa, C, dx, fs, pps, sp, e1, e2, e3, M, _, rfl, hsp _ (fun H6 s6 => ⟨_, rfl, ?_⟩)⟩
    have s46 := s45.trans s6
    have s7 := s3.trans s46
    cases hlets : pc.lets cur with
    | false =>
      refine iteT ?_
      refine ⟨_, rfl, _, rfl, (by show 2 ≤ sizeLine; decide), fun t ht => ?_⟩
      have ut := same_new ht (.tup [.ref l, .int (i : Int)])
      have ew := hat.stop hpc hlets
      refine q t l vs (.int i) _ (s7.trans ut) nl ((s46.trans ut) _ _ hlv) upd_same ?_ ?_
      · rw [ew]; exact hvs.keep (s46.trans ut)
      · rw [ew]; exact .int _
    | true =>
      refine iteF ?_
      obtain ⟨oa, C, dx, fs, pps, sp, e1, e2, e3, M, hsp⟩ := ob_bent (P := P) (w := w) (base := base) T (ho.keep s6) (hv.keep s46) hrb (g.bd _ hmem) bi
      refine ⟨_, rfl, oa, C, dx, fs, pps, sp, e1, e2, e3, M, _, rfl, hsp _ (fun v2 H7 s7' hv2 => ?_)⟩
      have s47 := s46.trans s7'
      have hl7 := s47 _ _ hlv
      refine ⟨_, rfl, .inl ⟨rfl, _, SqL.of hl7⟩, _, rfl, l, vs, v2, rfl, rfl, hl7, vs_len hvs (by omega), ?_⟩
      have uT := sameT_upd hl7 (.lst (vs ++ [v2]))
      refine ⟨_, _, _, v2, pc.bent cur, tr ++ [pc.bent cur], vs ++ [v2], rfl, ?_, upd_same, ?_, ?_, hat.step hpc hlets, ?_, ?_⟩
      · intro b o e
        rw [upd_ne (ne_of_none e nl)]
        exact (s3.trans s47) _ _ e
      · rw [← List.cons_append, List.map_append]
        exact dvs_keepT uT (by rw [← List.map_append]; exact noLs_map noL_ray _) ((hvs.keep s47).append (.cons hv2 .nil))
      · exact dv_keepT uT (noL_ray _) hv2
      · have := bent_rb (g.bd _ hmem) hrb
        exact Rb.mono this (step_le _ _ _)
      · exact len_step htr
  · rintro σ H' ⟨c1, c2, c3, v, cur, tr, vs, rfl, s3, hlv, hvs, hv, hat, hrb, htr⟩
    refine ⟨_, rfl, (by show 2 ≤ sizeLine; decide), fun t ht => ?_⟩
    have ut := same_new ht (.tup [.ref l, .non])
    rw [hl] at hat
    have ew := hat.done
    refine q t l vs .non _ (s3.trans ut) nl (ut _ _ hlv) upd_same ?_ ?_
    · rw [ew]; exact hvs.keep ut
    · rw [ew]; exact .non
end
end K48
namespace K48
open PySem L2 Lib Fr Op
seal PE PT PW PA PS PSs PG PGs PI PO PIfs
section
variable {P : Program} {w : World} {K : PySem.W.Frag} {mg : Str → Option Value} {base : Heap} {ad : Adr} {c : Bool}
theorem c_goes_by (T : Txt K mg ad) : CalB P w K mg base true 6 "goes_by" ["bench", "ray"] (PR K RGoes) := by
  have C_walk_of := c_walk_of (P := P) (w := w) (base := base) T
  refine T.t_goes_by.calN sc_goes_by (fun _ _ _ _ _ _ => by2 fun _ _ => rfl) (fun vs H Q E h => ?_) (fun f cdv A outer s H vs Q E hr h => ?_)
  · obtain ⟨_, _, dv, ⟨_, _, _, _, rfl, _⟩, _⟩ := h; exact dv.len
  obtain ⟨_, _, dv, ⟨ps, r, n, m, rfl, g, rb, hnm, rfl⟩, k⟩ := h
  obtain ⟨b, y, rfl, hb, hy⟩ := dv.two
  refine ⟨_, (pss_one (ps_ret (pe_cmpR op_isN (pe_ix ix_tup (pe_cB C_walk_of (hr.mono (by decide)) pass01 (pa_name (pv 0) (pa_name (pv 1) pa_nil))) pe_int (fun _ _ => rfl)) pe_non (nomark _)))), ?_⟩
  refine ⟨_, rfl, _, rfl, b, y, ps, r, n, m, rfl, hb, g, hy, rb, hnm, fun t l rs at_ H1 s1 nl hl ht hrs hat => ?_⟩
  refine ⟨t, _, _, _, rfl, rfl, SqT.of ht, rfl, rfl, ?_⟩
  refine k _ _ s1 ?_
  rw [← opt_isN hat]
  exact .bl _
end
end K48
namespace K48
open PySem L2 Lib Fr Op
seal PE PT PW PA PS PSs PG PGs PI PO PIfs
section
variable {P : Program} {w : World} {K : PySem.W.Frag} {mg : Str → Option Value} {base : Heap} {ad : Adr} {c : Bool}
theorem dN (T : Txt K mg ad) (H : Hp) : DV K H (.ref ad.NOUGHT) (frD 0) := .tup (T.ex.s_NOUGHT H) (.cons (.int 0) (.cons (.int 1) .nil))
theorem dO (T : Txt K mg ad) (H : Hp) : DV K H (.ref ad.ONE) (frD 1) := .tup (T.ex.s_ONE H) (.cons (.int 1) (.cons (.int 1) .nil))
end
end K48
namespace K48
open PySem L2 Lib Fr Op
seal PE PT PW PA PS PSs PG PGs PI PO PIfs
section
variable {P : Program} {w : World} {K : PySem.W.Frag} {mg : Str → Option Value} {base : Heap} {ad : Adr} {c : Bool}
theorem c__law_mix (T : Txt K mg ad) : CalB P w K mg base true 1 "_law_mix" ["_law_cell", "_law_by", "_law_many"] spMixG := by
  refine T.t__law_mix.calN sc__law_mix (fun _ _ _ _ _ _ => by3 fun _ _ _ => rfl) (fun vs H Q E h => ?_) (fun f cdv A outer s H vs Q E hr h => ?_)
  · obtain ⟨_, _, _, rfl, _⟩ := h; rfl
  obtain ⟨z, b, m, rfl, b0, b1, m0, q⟩ := h
  have fin : ∀ x : Int, Q (.int (x % m)) H := fun x => q _ (Int.emod_nonneg _ (by omega)) (Int.emod_lt_of_pos _ m0)
  have p32 : (2 : Int) ^ 32 = 4294967296 := by decide
  obtain ⟨tR, hR, kR⟩ : ∃ t, PSs (cxB true P w K mg base ["_law_cell", "_law_by", "_law_many", "_law_digits", "_law_turn", "_law_one"] "_law_mix" (defScope s__law_mix) f cdv A outer s H E).nox ((defBody s__law_mix).drop 1) t ∧ ∀ (D : Ends), (∀ x : Int, D.rt (.int (x % m)) H) → t D [some (.int z), some (.int b), some (.int m), none, none, none] H := by
    refine ⟨_, (pss_cons (ps_set (i := 5) sc__law_mix.nd rfl (Or.inl rfl) (pe_op op_mod (pe_op op_mul (pe_op op_add (pe_op op_mod (pv 0) pe_int) (pv 1)) pe_int) pe_int)) (pss_one (ps_ret (pe_op op_mod (pe_op op_fdiv (pe_op op_mod (pe_op op_mul (pe_op op_mod (pe_op op_mul (pv 5) (pv 5)) pe_int) (pe_op op_add (pe_op op_mod (pv 1) pe_int) pe_int)) pe_int) pe_int) (pv 2))))), ?_⟩
    intro D q
    have b2 : -(2 ^ 64) < (48271 : Int) ∧ (48271 : Int) < 2 ^ 64 := by decide
    refine ⟨_, rfl, _, _, rfl, rfl, (by show (0 : Int) < 1000003; decide), _, rfl, _, _, rfl, rfl, _, _, rfl, rfl, .inr b2, _, _, rfl, rfl, (by show (0 : Int) < 2147483647; decide), ?_⟩
    generalize ho : ((z % 1000003 + b) * 48271) % 2147483647 = o
    have o0 : 0 ≤ o := by rw [← ho]; exact Int.emod_nonneg _ (by decide)
    have o1 : o < 2147483647 := by rw [← ho]; exact Int.emod_lt_of_pos _ (by decide)
    refine ⟨_, rfl, _, rfl, _, _, rfl, rfl, .inl ⟨by omega, by omega⟩, _, _, rfl, rfl, (by show (0 : Int) < 2147483629; decide), _, rfl, _, _, rfl, rfl, (by show (0 : Int) < 65521; decide), _, _, rfl, rfl, _, _, rfl, rfl, .inr ⟨by omega, by omega⟩, _, _, rfl, rfl, (by show (0 : Int) < 2147483587; decide), _, _, rfl, rfl, ⟨by decide, by decide⟩, _, rfl, _, _, rfl, rfl, m0, q _⟩
  refine ⟨_, (pss_cons (ps_if (pt_cmpR op_ge (pv 0) (pe_op op_pow pe_int pe_int) (nomark _)) (pss_cons (ps_set (i := 3) sc__law_mix.nd rfl (Or.inl rfl) (pe_op op_fdiv (pv 0) pe_int)) (pss_cons (ps_for PassesOwn.never rfl (pi_range1 rfl T.range (pa_bin (pe_op op_mod (pe_op op_add (pv 1) (pe_op op_mod (pv 0) pe_int)) pe_int) pa_nil)) (pg_name (i := 4) sc__law_mix.nd rfl (by first | exact Or.inl rfl | exact Or.inr rfl)) (pss_one (ps_set (i := 3) sc__law_mix.nd rfl (Or.inl rfl) (pe_op op_fdiv (pv 3) pe_int)))) (pss_one (ps_ret (pe_op op_mod (pe_op op_mod (pv 3) pe_int) (pv 2)))))) pss_nil) hR), ?_⟩
  refine ⟨_, rfl, _, _, rfl, rfl, ⟨by decide, by decide, by decide⟩, _, _, rfl, rfl, _, rfl, ite2 (fun _ => ?_) (fun _ => kR _ fin)⟩
  refine ⟨_, rfl, _, _, rfl, rfl, ⟨by decide, by decide⟩, ?_⟩
  refine ⟨_, rfl, _, rfl, _, _, rfl, rfl, (by show (0 : Int) < 10080; decide), _, _, rfl, rfl, _, _, rfl, rfl, (by show (0 : Int) < 29; decide), _, rfl, by omega, by omega, ?_⟩
  refine for_range (lo := 0) (fun i σ H' => ∃ (dg : Int) (c4 c5 : Option V), σ = [some (.int z), some (.int b), some (.int m), some (.int dg), c4, c5] ∧ H' = H) ⟨_, _, _, rfl, rfl⟩ ?_ ?_
  · rintro i σ H' hi ⟨dg, c4, c5, rfl, rfl⟩
    exact ⟨_, rfl, _, _, rfl, rfl, ⟨by decide, by decide⟩, _, _, _, rfl, rfl⟩
  · rintro σ H' ⟨dg, c4, c5, rfl, rfl⟩
    exact ⟨_, rfl, _, _, rfl, rfl, (by show (0 : Int) < 1000003; decide), _, rfl, _, _, rfl, rfl, m0, fin _⟩
theorem c__law_ratio (T : Txt K mg ad) : CalB P w K mg base true 3 "_law_ratio" ["_law_cell", "_law_by"] (spRatC K) := by
  have C__law_mix := c__law_mix (P := P) (w := w) (base := base) T
  have C_ratio_of := c_ratio_of (P := P) (w := w) (base := base) T
  refine T.t__law_ratio.calN sc__law_ratio (fun _ _ _ _ _ _ => by2 fun _ _ => rfl) (fun vs H Q E h => ?_) (fun f cdv A outer s H vs Q E hr h => ?_)
  · obtain ⟨_, _, rfl, _⟩ := h; rfl
  obtain ⟨z, b, rfl, b0, b1, q⟩ := h
  refine ⟨_, (pss_cons (ps_set (i := 2) sc__law_ratio.nd rfl (Or.inl rfl) (pe_cB C__law_mix (hr.mono (by decide)) pass01 (pa_name (pv 0) (pa_name (pv 1) (pa_const pe_int pa_nil))))) (pss_one (ps_ret (pe_cB C_ratio_of (hr.mono (by decide)) pass01 (pa_bin (pe_op op_sub (pe_op op_mod (pv 2) pe_int) pe_int) (pa_bin (pe_op op_add pe_int (pe_op op_mod (pe_op op_fdiv (pv 2) pe_int) pe_int)) pa_nil)))))), ?_⟩
  refine ⟨_, rfl, _, rfl, z, b, _, rfl, b0, b1, (by decide), fun x x0 x1 => ?_⟩
  refine ⟨_, rfl, _, _, rfl, rfl, (by show (0 : Int) < 199; decide), _, _, rfl, rfl, ?_⟩
  refine ⟨_, rfl, _, _, rfl, rfl, ⟨by decide, by decide⟩, _, _, rfl, rfl, (by show (0 : Int) < 9; decide), _, _, rfl, rfl, ?_⟩
  have p7 : (2 : Nat) ^ 7 = 128 := by decide
  have c0 : (1 + x / 199 % 9 : Int) ≠ 0 := by omega
  have cs : (1 + x / 199 % 9 : Int).natAbs < 2 ^ 7 := by omega
  refine ⟨_, _, rfl, c0, Nat.lt_of_lt_of_le cs (by unfold lim; exact pow_le (by decide)), fun p3 hp3 => ?_⟩
  exact q _ _ _ (same_new hp3 _) (dv_low c0) (Bd.of c0 (by show (x % 199 - 99 : Int).natAbs < 2 ^ 7; omega) cs)
end
end K48
namespace K48
open PySem L2 Lib Fr Op
seal PE PT PW PA PS PSs PG PGs PI PO PIfs
local macro_rules | `(tactic| walk_at "Zs") => `(tactic| first | with_reducible assumption | with_reducible exact Same.refl _ | exact zs1 (by with_reducible assumption) (by walk_at "Zs") | exact zs2 (by with_reducible assumption) (by walk_at "Zs"))
local macro_rules | `(tactic| walk_at "Zd") => `(tactic| first | with_reducible assumption | with_reducible exact DV.int _ | with_reducible exact DV.str _ | with_reducible exact DV.bl _ | with_reducible exact DV.non | exact zd1 (by first | with_reducible assumption | assumption) (by walk_at "Zs") | with_reducible exact dN (by assumption) _ | with_reducible exact dO (by assumption) _ | exact zd2 (by with_reducible assumption) (by walk_at "Zs") (by walk_at "Zd") (by walk_at "Zd") | exact zd3 (by with_reducible assumption) (by walk_at "Zs") (by walk_at "Zd") (by walk_at "Zd") (by walk_at "Zd") | exact zd4 (by with_reducible assumption) (by walk_at "Zs") (by walk_at "Zd") (by walk_at "Zd") (by walk_at "Zd") (by walk_at "Zd"))
local macro_rules | `(tactic| walk_at "Zt") => `(tactic| first | assumption | exact zt1 (by assumption) (by walk_at "Zs") | exact zt2 (by walk_at "Zs"))
local macro_rules | `(tactic| walk_at "Zl") => `(tactic| first | assumption | exact zl1 (by assumption) (by walk_at "Zs") | exact zl2 (by walk_at "Zs"))
local macro_rules | `(tactic| walk_at "Zv") => `(tactic| first | exact DVs.nil | exact DVs.cons (by walk_at "Zd") (by walk_at "Zv"))
local macro_rules | `(tactic| walk_at "Zb") => `(tactic| first | with_reducible assumption | exact bd_zero 1 (by decide) | exact bd_one 1 (by decide) | with_reducible exact Bd.mul (by walk_at "Zb") (by walk_at "Zb") | with_reducible exact Bd.add (by walk_at "Zb") (by walk_at "Zb") | with_reducible exact Bd.sub (by walk_at "Zb") (by walk_at "Zb") | with_reducible exact Tb.a (by with_reducible assumption) | with_reducible exact Tb.b (by with_reducible assumption) | with_reducible exact Tb.c (by with_reducible assumption) | with_reducible exact Tb.d (by with_reducible assumption) | with_reducible exact Rb.y (by with_reducible assumption) | with_reducible exact Rb.u (by with_reducible assumption))
local macro_rules | `(tactic| walk_at "Zm") => `(tactic| first | with_reducible assumption | with_reducible exact Sm.zero | with_reducible exact Sm.one | exact Bd.sm (by walk_at "Zb") (by first | decide | omega))
local macro_rules | `(tactic| walk_at "Zr") => `(tactic| first | exact ⟨_, _, rfl, by walk_at "Zm", by walk_at "Zm", rfl⟩ | exact ⟨_, _, rfl, by walk_at "Zm", by walk_at "Zm", by assumption, rfl⟩)
local macro_rules | `(tactic| walk_at "Zc") => `(tactic| (refine ⟨_, _, by walk_at "Zv", by walk_at "Zr", fun v H' s hv => ?_⟩; (first | (obtain rfl := DV.bl_of hv) | (have := (show DV _ _ _ (frD _) from hv); clear this) | (obtain ⟨a, x1, x2, x3, x4, rfl, ha, h1, h2, h3, h4⟩ := DV.t4 hv) | (obtain ⟨a, x1, x2, x3, rfl, ha, h1, h2, h3⟩ := DV.t3 hv) | (obtain ⟨a, x1, x2, rfl, ha, h1, h2⟩ := DV.t2 hv) | skip)))
local macro_rules | `(tactic| walk_at "Zp") => `(tactic| first | refine ⟨by (show 2 ≤ sizeLine; decide), fun p hp => ?_⟩ | refine ⟨by (show 3 ≤ sizeLine; decide), fun p hp => ?_⟩ | refine ⟨by (show 4 ≤ sizeLine; decide), fun p hp => ?_⟩)
local macro_rules | `(tactic| walk_at "Zn") => `(tactic| first | refine ⟨_, rfl, ?_⟩ | refine ⟨_, _, _, _, rfl, rfl, by walk_at "Zt", by rfl, ?_⟩ | refine ⟨_, _, rfl, rfl, ?_⟩)
local macro_rules | `(tactic| walk_at "Z1") => `(tactic| first | walk_at "Zn" | walk_at "Zp" | walk_at "Zc" | refine iteF ?_ | refine iteT ?_)
local macro_rules | `(tactic| walk_at "Z") => `(tactic| repeat walk_at "Z1")
section
variable {P : Program} {w : World} {K : PySem.W.Frag} {mg : Str → Option Value} {base : Heap} {ad : Adr} {c : Bool}
theorem c_limits_of (T : Txt K mg ad) : CalB P w K mg base true 5 "limits_of" ["bench"] (spLims K) := by
  have C_look_at := c_look_at (P := P) (w := w) (base := base) T
  have C_piece_of := c_piece_of (P := P) (w := w) (base := base) T
  refine T.t_limits_of.calN sc_limits_of (fun _ _ _ _ _ _ => by1 fun _ => rfl) (fun vs H Q E h => ?_) (fun f cdv A outer s H vs Q E hr h => ?_)
  · obtain ⟨_, _, _, rfl, _⟩ := h; rfl
  obtain ⟨b, ps, m, rfl, hb, g, hnm, q⟩ := h
  obtain ⟨a, xs, rfl, ha, hxs⟩ := DV.lst_of hb
  have hl : xs.length = ps.length := by have := hxs.len; rw [List.length_map] at this; exact this
  have gl := g.len
  refine ⟨_, (pss_cons (ps_expr (pe_cB C_look_at (hr.mono (by decide)) pass01 (pa_name (pv 0) pa_nil))) (pss_cons (ps_set (i := 1) sc_limits_of.nd rfl (Or.inl rfl) (pe_lst pa_nil)) (pss_cons (ps_set (i := 2) sc_limits_of.nd rfl (Or.inl rfl) (pe_tup (pa_name (pe_glob (v := .ref ad.ONE) rfl T.ex.m_ONE rfl) (pa_name (pe_glob (v := .ref ad.NOUGHT) rfl T.ex.m_NOUGHT rfl) pa_nil)))) (pss_cons (ps_set (i := 3) sc_limits_of.nd rfl (Or.inl rfl) (pe_tup (pa_name (pe_glob (v := .ref ad.NOUGHT) rfl T.ex.m_NOUGHT rfl) (pa_name (pe_glob (v := .ref ad.ONE) rfl T.ex.m_ONE rfl) pa_nil)))) (pss_cons (ps_for PassesOwn.never rfl (pi_enum rfl T.enumerate (pa_name (pv 0) pa_nil)) (pg_tup (n := 2) rfl (pgs_cons (pg_name (i := 4) sc_limits_of.nd rfl (by first | exact Or.inl rfl | exact Or.inr rfl)) (pgs_cons (pg_name (i := 5) sc_limits_of.nd rfl (by first | exact Or.inl rfl | exact Or.inr rfl)) pgs_nil))) (pss_cons (ps_if (pt_cmpR op_eq (pe_ix ix_tup (pv 5) pe_int (fun _ _ => rfl)) (pe_glob (v := .str "stop") rfl T.ex.m_STOP ⟨_, rfl⟩) (nomark _)) (pss_one (ps_expr (pe_bm PySem.F.plainAttrs_list PySem.F.slot_list_append PySem.F.type_list_append mt_append (pv 1) (pa_tuple (pe_tup (pa_name (pv 4) (pa_sub (pe_ix ix_tup (pv 2) pe_int (fun _ _ => rfl)) (pa_sub (pe_ix ix_tup (pv 3) pe_int (fun _ _ => rfl)) (pa_sub (pe_ix ix_tup (pv 5) pe_int (fun _ _ => rfl)) (pa_sub (pe_ix ix_tup (pv 5) pe_int (fun _ _ => rfl)) pa_nil)))))) pa_nil)))) pss_nil) (pss_cons (ps_set (i := 6) sc_limits_of.nd rfl (Or.inl rfl) (pe_cB C_piece_of (hr.mono (by decide)) pass01 (pa_name (pv 5) pa_nil))) (pss_cons (ps_set (i := 2) sc_limits_of.nd rfl (Or.inl rfl) (pe_mB (k := 4) (pv 6) (hr.mono (by decide)) (pa_name (pv 2) pa_nil))) (pss_one (ps_set (i := 3) sc_limits_of.nd rfl (Or.inl rfl) (pe_mB (k := 4) (pv 6) (hr.mono (by decide)) (pa_name (pv 3) pa_nil)))))))) (pss_one (ps_ret (pv 1)))))))), ?_⟩
  refine ⟨_, rfl, _, ps, m, rfl, hb, g, by omega, fun H1 s1 => ?_⟩
  refine ⟨(by show 0 ≤ sizeLine; decide), fun l hl1 => ?_⟩
  have nl : H l = none := s1.free hl1
  have u0 := same_new hl1 (.lst [])
  have hl0 : upd H1 l (.lst []) l = some (.lst []) := upd_same
  generalize upd H1 l (.lst []) = H1' at u0 hl0 ⊢
  refine ⟨(by show 2 ≤ sizeLine; decide), fun p1 hp1 => ?_⟩
  have u1 := same_new hp1 (.tup [.ref ad.ONE, .ref ad.NOUGHT])
  have d1 : DV K (upd H1' p1 (.tup [.ref ad.ONE, .ref ad.NOUGHT])) (.ref p1) (rayD e1) := DV.upd2 hp1 (dO T _) (dN T _)
  refine ⟨(by show 2 ≤ sizeLine; decide), fun p2 hp2 => ?_⟩
  have u2 := same_new hp2 (.tup [.ref ad.NOUGHT, .ref ad.ONE])
  have d2 : DV K (upd (upd H1' p1 (.tup [.ref ad.ONE, .ref ad.NOUGHT])) p2 (.tup [.ref ad.NOUGHT, .ref ad.ONE])) (.ref p2) (rayD e2) := DV.upd2 hp2 (dN T _) (dO T _)
  have s2 := s1.trans (u0.trans (u1.trans u2))
  refine ⟨_, rfl, a, rfl, ⟨_, ha.keep s2⟩, ?_⟩
  refine for_enum (K := K) (a := a) (xs := xs) (fun i σ H' => ∃ c4 c5 c6 v1 v2 vs, σ = [some (.ref a), some (.ref l), some v1, some v2, c4, c5, c6] ∧ Same H H' ∧ H' l = some (.lst vs) ∧ DVs K H' vs ((lims (ps.take i)).map limD) ∧ DV K H' v1 (rayD (bend (ps.take i) e1)) ∧ DV K H' v2 (rayD (bend (ps.take i) e2)) ∧ RB (2 + i * (m + 1)) (bend (ps.take i) e1) ∧ RB (2 + i * (m + 1)) (bend (ps.take i) e2)) ⟨_, _, _, _, _, [], rfl, s2, (u1.trans u2) _ _ hl0, .nil, d1.keep u2, d2, by simpa [bend] using rb_e1, by simpa [bend] using rb_e2⟩ ?_ ?_ ?_
  · rintro i σ H' hi ⟨c4, c5, c6, v1, v2, vs, rfl, s3, _⟩
    exact ha.keep s3
  · rintro i x σ H' p hi ⟨c4, c5, c6, v1, v2, vs, rfl, s3, hlv, hvs, hv1, hv2, b1, b2⟩ hp
    obtain ⟨d, hd, hx⟩ := hxs.get hi
    obtain ⟨pc, hpc, rfl⟩ := get_map_pc hd
    have hmem := List.mem_of_getElem? hpc
    have hi' := lt_of_get hpc
    have bi := bi_le hnm hi'
    have up := same_new hp (.tup [.int i, x])
    have hx4 := hx.keep (s3.trans up)
    refine ⟨p, _, rfl, SqT.of upd_same, rfl, _, _, rfl, _, _, rfl, rfl, ?_⟩
    have et := bend_take hpc
    have el := lims_take hpc
    have vl : vs.length ≤ 60 := by
      have h1 := hvs.len
      rw [List.length_map] at h1
      have h2 := lims_len (ps.take i) 0 e1 e2
      rw [List.length_take] at h2
      unfold lims at h1
      omega
    -- what comes behind the list
    have fin : ∀ (vs' : List V) (H5 : Hp), Same H H5 → H5 l = some (.lst vs') → DVs K H5 vs' ((lims (ps.take (i + 1))).map limD) → DV K H5 v1 (rayD (bend (ps.take i) e1)) → DV K H5 v2 (rayD (bend (ps.take i) e2)) → DV K H5 x (pcD pc) → ∀ (o : Addr) H6, Same H5 H6 → ObAt K ad.Gap ad.Glass ad.Stop H6 (.ref o) pc → ∀ w1 H7, Same H6 H7 → DV K H7 w1 (rayD (pc.bent (bend (ps.take i) e1))) → ∀ w2 H8, Same H7 H8 → DV K H8 w2 (rayD (pc.bent (bend (ps.take i) e2))) →
        ∃ c4 c5 c6 v1 v2 vs, ([some (.ref a), some (.ref l), some w1, some w2, some (.int (i : Int)), some x, some (.ref o)] : St) = [some (.ref a), some (.ref l), some v1, some v2, c4, c5, c6] ∧ Same H H8 ∧ H8 l = some (.lst vs) ∧ DVs K H8 vs ((lims (ps.take (i + 1))).map limD) ∧ DV K H8 v1 (rayD (bend (ps.take (i + 1)) e1)) ∧ DV K H8 v2 (rayD (bend (ps.take (i + 1)) e2)) ∧ RB (2 + (i + 1) * (m + 1)) (bend (ps.take (i + 1)) e1) ∧ RB (2 + (i + 1) * (m + 1)) (bend (ps.take (i + 1)) e2) := by
      intro vs' H5 s5 hl5 hvs5 _ _ _ o H6 s6 _ w1 H7 s7 hw1 w2 H8 s8 hw2
      refine ⟨_, _, _, w1, w2, vs', rfl, s5.trans (s6.trans (s7.trans s8)), (s6.trans (s7.trans s8)) _ _ hl5, hvs5.keep (s6.trans (s7.trans s8)), ?_, ?_, ?_, ?_⟩
      · rw [et]; exact hw1.keep s8
      · rw [et]; exact hw2
      · rw [et]; exact Rb.mono (bent_rb (g.bd _ hmem) b1) (by rw [Nat.add_mul]; omega)
      · rw [et]; exact Rb.mono (bent_rb (g.bd _ hmem) b2) (by rw [Nat.add_mul]; omega)
    cases pc with
    | gap e =>
      obtain ⟨pa, z, z1, rfl, hpa, hz, hz1⟩ := DV.t2 hx4
      obtain rfl := hz.str_of
      refine ⟨_, rfl, pa, _, _, _, rfl, rfl, hpa, rfl, rfl, _, rfl, iteF' (by decide) ?_⟩
      refine ⟨_, rfl, _, .gap e, rfl, hx4, fun o H5 s5 ho => ?_⟩
      obtain ⟨oa, C, dx, fs, pps, sp, q1, q2, q3, M, hsp⟩ := ob_bent (P := P) (w := w) (base := base) T ho (hv1.keep (up.trans s5)) b1 (g.bd _ hmem) bi
      refine ⟨_, rfl, oa, C, dx, fs, pps, sp, q1, q2, q3, M, _, rfl, hsp _ (fun w1 H6 s6 hw1 => ?_)⟩
      obtain ⟨oa, C, dx, fs, pps, sp, q1, q2, q3, M, hsp⟩ := ob_bent (P := P) (w := w) (base := base) T (ho.keep s6) (hv2.keep (up.trans (s5.trans s6))) b2 (g.bd _ hmem) bi
      refine ⟨_, rfl, oa, C, dx, fs, pps, sp, q1, q2, q3, M, _, rfl, hsp _ (fun w2 H7 s7 hw2 => ?_)⟩
      exact fin vs _ (s3.trans up) (up _ _ hlv) (by rw [el]; show DVs K _ vs ((lims (ps.take i) ++ []).map limD); rw [List.append_nil]; exact hvs.keep up) (hv1.keep up) (hv2.keep up) hx4 o H5 s5 ho w1 H6 s6 hw1 w2 H7 s7 hw2
    | glass e =>
      obtain ⟨pa, z, z1, rfl, hpa, hz, hz1⟩ := DV.t2 hx4
      obtain rfl := hz.str_of
      refine ⟨_, rfl, pa, _, _, _, rfl, rfl, hpa, rfl, rfl, _, rfl, iteF' (by decide) ?_⟩
      refine ⟨_, rfl, _, .glass e, rfl, hx4, fun o H5 s5 ho => ?_⟩
      obtain ⟨oa, C, dx, fs, pps, sp, q1, q2, q3, M, hsp⟩ := ob_bent (P := P) (w := w) (base := base) T ho (hv1.keep (up.trans s5)) b1 (g.bd _ hmem) bi
      refine ⟨_, rfl, oa, C, dx, fs, pps, sp, q1, q2, q3, M, _, rfl, hsp _ (fun w1 H6 s6 hw1 => ?_)⟩
      obtain ⟨oa, C, dx, fs, pps, sp, q1, q2, q3, M, hsp⟩ := ob_bent (P := P) (w := w) (base := base) T (ho.keep s6) (hv2.keep (up.trans (s5.trans s6))) b2 (g.bd _ hmem) bi
      refine ⟨_, rfl, oa, C, dx, fs, pps, sp, q1, q2, q3, M, _, rfl, hsp _ (fun w2 H7 s7 hw2 => ?_)⟩
      exact fin vs _ (s3.trans up) (up _ _ hlv) (by rw [el]; show DVs K _ vs ((lims (ps.take i) ++ []).map limD); rw [List.append_nil]; exact hvs.keep up) (hv1.keep up) (hv2.keep up) hx4 o H5 s5 ho w1 H6 s6 hw1 w2 H7 s7 hw2
    | stop lo hi2 =>
      obtain ⟨pa, z, z1, z2, rfl, hpa, hz, hz1, hz2⟩ := DV.t3 hx4
      obtain rfl := hz.str_of
      have hlp := up _ _ hlv
      have k1 := hv1.keep up
      have k2 := hv2.keep up
      have hvsp := hvs.keep up
      have sp0 := s3.trans up
      generalize upd H' p (.tup [.int i, .ref pa]) = H4 at hpa hz hz1 hz2 hx4 hlp k1 k2 hvsp sp0 ⊢
      obtain ⟨ra, r1, r2, rfl, hra, hr1, hr2⟩ := DV.t2 k1
      obtain ⟨ta, t1, t2, rfl, hta, ht1, ht2⟩ := DV.t2 k2
      refine ⟨_, rfl, pa, _, _, _, rfl, rfl, hpa, rfl, rfl, _, rfl, iteT' (by decide) ?_⟩
      refine ⟨_, rfl, .inl ⟨rfl, _, SqL.of hlp⟩, ?_⟩
      refine ⟨_, rfl, _, rfl, ra, _, _, _, rfl, rfl, hra, rfl, _, rfl, ta, _, _, _, rfl, rfl, hta, rfl, _, rfl, pa, _, _, _, rfl, rfl, hpa, rfl, _, rfl, pa, _, _, _, rfl, rfl, hpa, rfl, (by show 5 ≤ sizeLine; decide), fun t5 ht5 => ?_⟩
      have d5 : DV K (upd H4 t5 (.tup [.int i, r1, t1, z1, z2])) (.ref t5) (limD ⟨i, (bend (ps.take i) e1).1, (bend (ps.take i) e2).1, lo, hi2⟩) := DV.upd5 ht5 (.int _) hr1 ht1 hz1 hz2
      have u5 := same_new ht5 (.tup [.int i, r1, t1, z1, z2])
      generalize upd H4 t5 (.tup [.int i, r1, t1, z1, z2]) = H5 at d5 u5 ⊢
      have hl5 := u5 _ _ hlp
      refine ⟨l, vs, _, rfl, rfl, hl5, small1000 (by omega), ?_⟩
      have uT := sameT_upd hl5 (.lst (vs ++ [.ref t5]))
      have sH : Same H (upd H5 l (.lst (vs ++ [.ref t5]))) := fun b o e => by
        rw [upd_ne (ne_of_none e nl)]
        exact (sp0.trans u5) _ _ e
      have hv6 : DVs K (upd H5 l (.lst (vs ++ [.ref t5]))) (vs ++ [.ref t5]) ((lims (ps.take (i + 1))).map limD) := by
        rw [el, List.map_append]
        exact dvs_keepT uT (by rw [← List.map_append]; exact noLs_map noL_lim _) ((hvsp.keep u5).append (.cons d5 .nil))
      have k16 : DV K (upd H5 l (.lst (vs ++ [.ref t5]))) (.ref ra) (rayD (bend (ps.take i) e1)) := dv_keepT uT (noL_ray _) (k1.keep u5)
      have k26 : DV K (upd H5 l (.lst (vs ++ [.ref t5]))) (.ref ta) (rayD (bend (ps.take i) e2)) := dv_keepT uT (noL_ray _) (k2.keep u5)
      have hx6 : DV K (upd H5 l (.lst (vs ++ [.ref t5]))) (.ref pa) (pcD (.stop lo hi2)) := dv_keepT uT (noL_pc _) (hx4.keep u5)
      have hl6 : upd H5 l (.lst (vs ++ [.ref t5])) l = some (.lst (vs ++ [.ref t5])) := upd_same
      generalize upd H5 l (.lst (vs ++ [.ref t5])) = H6 at sH hv6 k16 k26 hx6 hl6 ⊢
      refine ⟨_, rfl, _, .stop lo hi2, rfl, hx6, fun o H7 s7 ho => ?_⟩
      obtain ⟨oa, C, dx, fs, pps, sp, q1, q2, q3, M, hsp⟩ := ob_bent (P := P) (w := w) (base := base) T ho (k16.keep s7) b1 (g.bd _ hmem) bi
      refine ⟨_, rfl, oa, C, dx, fs, pps, sp, q1, q2, q3, M, _, rfl, hsp _ (fun w1 H8 s8 hw1 => ?_)⟩
      obtain ⟨oa, C, dx, fs, pps, sp, q1, q2, q3, M, hsp⟩ := ob_bent (P := P) (w := w) (base := base) T (ho.keep s8) (k26.keep (s7.trans s8)) b2 (g.bd _ hmem) bi
      refine ⟨_, rfl, oa, C, dx, fs, pps, sp, q1, q2, q3, M, _, rfl, hsp _ (fun w2 H9 s9 hw2 => ?_)⟩
      exact fin _ _ sH hl6 hv6 k16 k26 hx6 o H7 s7 ho w1 H8 s8 hw1 w2 H9 s9 hw2
  · rintro σ H' ⟨c4, c5, c6, v1, v2, vs, rfl, s3, hlv, hvs, _⟩
    rw [hl, List.take_length] at hvs
    exact ⟨_, rfl, q l vs _ s3 nl hlv hvs⟩
end
end K48
namespace K48
open PySem L2 Lib Fr Op
seal PE PT PW PA PS PSs PG PGs PI PO PIfs
local macro_rules | `(tactic| walk_at "Zs") => `(tactic| first | with_reducible assumption | with_reducible exact Same.refl _ | exact zs1 (by with_reducible assumption) (by walk_at "Zs") | exact zs2 (by with_reducible assumption) (by walk_at "Zs"))
local macro_rules | `(tactic| walk_at "Zd") => `(tactic| first | with_reducible assumption | with_reducible exact DV.int _ | with_reducible exact DV.str _ | with_reducible exact DV.bl _ | with_reducible exact DV.non | exact zd1 (by first | with_reducible assumption | assumption) (by walk_at "Zs") | with_reducible exact dN (by assumption) _ | with_reducible exact dO (by assumption) _ | exact zd2 (by with_reducible assumption) (by walk_at "Zs") (by walk_at "Zd") (by walk_at "Zd") | exact zd3 (by with_reducible assumption) (by walk_at "Zs") (by walk_at "Zd") (by walk_at "Zd") (by walk_at "Zd") | exact zd4 (by with_reducible assumption) (by walk_at "Zs") (by walk_at "Zd") (by walk_at "Zd") (by walk_at "Zd") (by walk_at "Zd"))
local macro_rules | `(tactic| walk_at "Zt") => `(tactic| first | assumption | exact zt1 (by assumption) (by walk_at "Zs") | exact zt2 (by walk_at "Zs"))
local macro_rules | `(tactic| walk_at "Zl") => `(tactic| first | assumption | exact zl1 (by assumption) (by walk_at "Zs") | exact zl2 (by walk_at "Zs"))
local macro_rules | `(tactic| walk_at "Zv") => `(tactic| first | exact DVs.nil | exact DVs.cons (by walk_at "Zd") (by walk_at "Zv"))
local macro_rules | `(tactic| walk_at "Zb") => `(tactic| first | with_reducible assumption | exact bd_zero 1 (by decide) | exact bd_one 1 (by decide) | with_reducible exact Bd.mul (by walk_at "Zb") (by walk_at "Zb") | with_reducible exact Bd.add (by walk_at "Zb") (by walk_at "Zb") | with_reducible exact Bd.sub (by walk_at "Zb") (by walk_at "Zb") | with_reducible exact Tb.a (by with_reducible assumption) | with_reducible exact Tb.b (by with_reducible assumption) | with_reducible exact Tb.c (by with_reducible assumption) | with_reducible exact Tb.d (by with_reducible assumption) | with_reducible exact Rb.y (by with_reducible assumption) | with_reducible exact Rb.u (by with_reducible assumption))
local macro_rules | `(tactic| walk_at "Zm") => `(tactic| first | with_reducible assumption | with_reducible exact Sm.zero | with_reducible exact Sm.one | exact Bd.sm (by walk_at "Zb") (by first | decide | omega))
local macro_rules | `(tactic| walk_at "Zr") => `(tactic| first | exact ⟨_, _, rfl, by walk_at "Zm", by walk_at "Zm", rfl⟩ | exact ⟨_, _, rfl, by walk_at "Zm", by walk_at "Zm", by assumption, rfl⟩)
local macro_rules | `(tactic| walk_at "Zc") => `(tactic| (refine ⟨_, _, by walk_at "Zv", by walk_at "Zr", fun v H' s hv => ?_⟩; (first | (obtain rfl := DV.bl_of hv) | (have := (show DV _ _ _ (frD _) from hv); clear this) | (obtain ⟨a, x1, x2, x3, x4, rfl, ha, h1, h2, h3, h4⟩ := DV.t4 hv) | (obtain ⟨a, x1, x2, x3, rfl, ha, h1, h2, h3⟩ := DV.t3 hv) | (obtain ⟨a, x1, x2, rfl, ha, h1, h2⟩ := DV.t2 hv) | skip)))
local macro_rules | `(tactic| walk_at "Zp") => `(tactic| first | refine ⟨by (show 2 ≤ sizeLine; decide), fun p hp => ?_⟩ | refine ⟨by (show 3 ≤ sizeLine; decide), fun p hp => ?_⟩ | refine ⟨by (show 4 ≤ sizeLine; decide), fun p hp => ?_⟩)
local macro_rules | `(tactic| walk_at "Zn") => `(tactic| first | refine ⟨_, rfl, ?_⟩ | refine ⟨_, _, _, _, rfl, rfl, by walk_at "Zt", by rfl, ?_⟩ | refine ⟨_, _, rfl, rfl, ?_⟩)
local macro_rules | `(tactic| walk_at "Z1") => `(tactic| first | walk_at "Zn" | walk_at "Zp" | walk_at "Zc" | refine iteF ?_ | refine iteT ?_)
local macro_rules | `(tactic| walk_at "Z") => `(tactic| repeat walk_at "Z1")
section
variable {P : Program} {w : World} {K : PySem.W.Frag} {mg : Str → Option Value} {base : Heap} {ad : Adr} {c : Bool}
theorem c_is_stretch (T : Txt K mg ad) : CalB P w K mg base true 3 "is_stretch" ["first", "last"] (PR K RStrch) := by
  have C_is_ratio := c_is_ratio (P := P) (w := w) (base := base) T
  have C_is_less := c_is_less (P := P) (w := w) (base := base) T
  refine T.t_is_stretch.calN sc_is_stretch (fun _ _ _ _ _ _ => by2 fun _ _ => rfl) (fun vs H Q E h => ?_) (fun f cdv A outer s H vs Q E hr h => ?_)
  · obtain ⟨_, _, dv, ⟨_, _, rfl, _⟩, _⟩ := h; exact dv.len
  obtain ⟨_, _, dv, ⟨p, q, rfl, sp, sq, ord, rfl⟩, k⟩ := h
  obtain ⟨x, y, rfl, hx, hy⟩ := dv.two
  refine ⟨_, (pss_one (ps_ret (pe_and (pe_cB C_is_ratio (hr.mono (by decide)) pass01 (pa_name (pv 0) pa_nil)) (pe_and (pe_cB C_is_ratio (hr.mono (by decide)) pass01 (pa_name (pv 1) pa_nil)) (pe_one (pe_not (pe_cB C_is_less (hr.mono (by decide)) pass01 (pa_name (pv 1) (pa_name (pv 0) pa_nil))))))))), ?_⟩
  refine ⟨_, rfl, _, _, rfl, hx, _, rfl, iteT ?_⟩
  refine ⟨_, rfl, _, _, rfl, hy, _, rfl, iteT ?_⟩
  refine ⟨_, rfl, _, rfl, _, _, .cons hy (.cons hx .nil), ⟨_, _, rfl, sq, sp, rfl⟩, fun b H1 s1 hb => ?_⟩
  obtain rfl := hb.bl_of
  rw [decide_eq_false (show ¬ q < p by grind)]
  exact ⟨_, rfl, k _ _ s1 (.bl _)⟩
theorem c_is_box (T : Txt K mg ad) : CalB P w K mg base true 4 "is_box" ["thing"] (PR K RIsBox) := by
  have C_is_stretch := c_is_stretch (P := P) (w := w) (base := base) T
  refine T.t_is_box.calN sc_is_box (fun _ _ _ _ _ _ => by1 fun _ => rfl) (fun vs H Q E h => ?_) (fun f cdv A outer s H vs Q E hr h => ?_)
  · obtain ⟨_, _, dv, ⟨_, _, rfl, _⟩, _⟩ := h; exact dv.len
  obtain ⟨_, _, dv, ⟨x, n, rfl, ok, bd, hn, rfl⟩, k⟩ := h
  obtain ⟨_, rfl, hx⟩ := dv.one
  obtain ⟨a, x1, x2, x3, x4, rfl, ha, h1, h2, h3, h4⟩ := DV.t4b hx
  refine ⟨_, (pss_cons (ps_if (PW.pt (pw_or (pt_not (pt_val (pe_callB call_isiD rfl T.isinstance bt_isinstance (pa_name (pv 0) (pa_name (pe_bltn (v := .ty "tuple") rfl T.tuple bt_tuple rfl) pa_nil))))) (pw_or1 (pt_cmpR op_ne (pe_callB call_len_seq rfl T.len bt_len (pa_name (pv 0) pa_nil)) pe_int (nomark _))))) (pss_one (ps_ret pe_bl)) pss_nil) (pss_one (ps_ret (pe_and (pe_cB C_is_stretch (hr.mono (by decide)) pass01 (pa_sub (pe_ix ix_tup (pv 0) pe_int (fun _ _ => rfl)) (pa_sub (pe_ix ix_tup (pv 0) pe_int (fun _ _ => rfl)) pa_nil))) (pe_one (pe_cB C_is_stretch (hr.mono (by decide)) pass01 (pa_sub (pe_ix ix_tup (pv 0) pe_int (fun _ _ => rfl)) (pa_sub (pe_ix ix_tup (pv 0) pe_int (fun _ _ => rfl)) pa_nil)))))))), ?_⟩
  refine ⟨_, rfl, _, _, _, _, rfl, hx, isTup_b _, _, rfl, iteF ?_⟩
  refine ⟨_, rfl, a, _, rfl, .inr ha, rfl, _, rfl, iteF ?_⟩
  refine ⟨_, rfl, a, _, _, _, rfl, rfl, ha, rfl, _, rfl, a, _, _, _, rfl, rfl, ha, rfl, _, _, .cons h1 (.cons h2 .nil), ⟨_, _, rfl, bd.a.sm hn, bd.b.sm hn, ok.h, rfl⟩, fun b H1 s1 hb => ?_⟩
  obtain rfl := hb.bl_of
  refine ⟨_, rfl, iteT ?_⟩
  have ha1 := ha.keep s1
  refine ⟨_, rfl, a, _, _, _, rfl, rfl, ha1, rfl, _, rfl, a, _, _, _, rfl, rfl, ha1, rfl, _, _, .cons (h3.keep s1) (.cons (h4.keep s1) .nil), ⟨_, _, rfl, bd.c.sm hn, bd.d.sm hn, ok.s, rfl⟩, fun b H2 s2 hb => ?_⟩
  exact k _ _ (s1.trans s2) hb
theorem c_look_at_box (T : Txt K mg ad) : CalB P w K mg base true 5 "look_at_box" ["box"] (PR K RLookBox) := by
  have C_is_box := c_is_box (P := P) (w := w) (base := base) T
  refine T.t_look_at_box.calN sc_look_at_box (fun _ _ _ _ _ _ => by1 fun _ => rfl) (fun vs H Q E h => ?_) (fun f cdv A outer s H vs Q E hr h => ?_)
  · obtain ⟨_, _, dv, ⟨_, _, rfl, _⟩, _⟩ := h; exact dv.len
  obtain ⟨_, _, dv, ⟨x, n, rfl, ok, bd, hn, rfl⟩, k⟩ := h
  obtain ⟨_, rfl, hx⟩ := dv.one
  refine ⟨_, (pss_one (ps_if (pt_not (pt_val (pe_cB C_is_box (hr.mono (by decide)) pass01 (pa_name (pv 0) pa_nil)))) (pss_one ps_never) pss_nil)), ?_⟩
  refine ⟨_, rfl, _, _, .cons hx .nil, ⟨_, _, rfl, ok, bd, hn, rfl⟩, fun b H1 s1 hb => ?_⟩
  obtain rfl := hb.bl_of
  exact ⟨_, rfl, iteF (k _ _ s1 .non)⟩
theorem c_corners_of (T : Txt K mg ad) : CalB P w K mg base true 2 "corners_of" ["box"] (PR K RCorn) := by
  refine T.t_corners_of.calN sc_corners_of (fun _ _ _ _ _ _ => by1 fun _ => rfl) (fun vs H Q E h => ?_) (fun f cdv A outer s H vs Q E hr h => ?_)
  · obtain ⟨_, _, dv, ⟨_, rfl, _⟩, _⟩ := h; exact dv.len
  obtain ⟨_, _, dv, ⟨x, rfl, rfl⟩, k⟩ := h
  obtain ⟨_, rfl, hx⟩ := dv.one
  obtain ⟨a, x1, x2, x3, x4, rfl, ha, h1, h2, h3, h4⟩ := DV.t4b hx
  refine ⟨_, (pss_cons (ps_set (i := 1) sc_corners_of.nd rfl (Or.inl rfl) (pe_lst pa_nil)) (pss_cons (ps_for PassesOwn.never rfl (pi_list (pe_lst (pa_tuple (pe_tup (pa_sub (pe_ix ix_tup (pv 0) pe_int (fun _ _ => rfl)) (pa_sub (pe_ix ix_tup (pv 0) pe_int (fun _ _ => rfl)) pa_nil))) (pa_tuple (pe_tup (pa_sub (pe_ix ix_tup (pv 0) pe_int (fun _ _ => rfl)) (pa_sub (pe_ix ix_tup (pv 0) pe_int (fun _ _ => rfl)) pa_nil))) (pa_tuple (pe_tup (pa_sub (pe_ix ix_tup (pv 0) pe_int (fun _ _ => rfl)) (pa_sub (pe_ix ix_tup (pv 0) pe_int (fun _ _ => rfl)) pa_nil))) (pa_tuple (pe_tup (pa_sub (pe_ix ix_tup (pv 0) pe_int (fun _ _ => rfl)) (pa_sub (pe_ix ix_tup (pv 0) pe_int (fun _ _ => rfl)) pa_nil))) pa_nil)))))) (pg_name (i := 2) sc_corners_of.nd rfl (by first | exact Or.inl rfl | exact Or.inr rfl)) (pss_one (ps_if (pt_cmpR (op_notInD hr.units) (pv 2) (pv 1) (by rfl)) (pss_one (ps_expr (pe_bm PySem.F.plainAttrs_list PySem.F.slot_list_append PySem.F.type_list_append mt_append (pv 1) (pa_name (pv 2) pa_nil)))) pss_nil))) (pss_one (ps_ret (pv 1))))), ?_⟩
  refine ⟨(by show 0 ≤ sizeLine; decide), fun l nl => ?_⟩
  have u0 := same_new nl (.lst [])
  have hl0 : upd H l (.lst []) l = some (.lst []) := upd_same
  generalize upd H l (.lst []) = H0 at u0 hl0 ⊢
  have a0 := ha.keep u0
  refine ⟨_, rfl, a, _, _, _, rfl, rfl, a0, rfl, _, rfl, a, _, _, _, rfl, rfl, a0, rfl, (by show 2 ≤ sizeLine; decide), fun p1 hp1 => ?_⟩
  have d1 : DV K (upd H0 p1 (.tup [x1, x3])) (.ref p1) (rayD (x.a, x.c)) := DV.upd2 hp1 (h1.keep u0) (h3.keep u0)
  have u1 := same_new hp1 (.tup [x1, x3])
  generalize upd H0 p1 (.tup [x1, x3]) = H1 at d1 u1 ⊢
  have t1 := u0.trans u1
  have a1 := ha.keep t1
  refine ⟨_, rfl, a, _, _, _, rfl, rfl, a1, rfl, _, rfl, a, _, _, _, rfl, rfl, a1, rfl, (by show 2 ≤ sizeLine; decide), fun p2 hp2 => ?_⟩
  have d2 : DV K (upd H1 p2 (.tup [x2, x3])) (.ref p2) (rayD (x.b, x.c)) := DV.upd2 hp2 (h2.keep t1) (h3.keep t1)
  have u2 := same_new hp2 (.tup [x2, x3])
  generalize upd H1 p2 (.tup [x2, x3]) = H2 at d2 u2 ⊢
  have t2 := t1.trans u2
  have a2 := ha.keep t2
  refine ⟨_, rfl, a, _, _, _, rfl, rfl, a2, rfl, _, rfl, a, _, _, _, rfl, rfl, a2, rfl, (by show 2 ≤ sizeLine; decide), fun p3 hp3 => ?_⟩
  have d3 : DV K (upd H2 p3 (.tup [x2, x4])) (.ref p3) (rayD (x.b, x.d)) := DV.upd2 hp3 (h2.keep t2) (h4.keep t2)
  have u3 := same_new hp3 (.tup [x2, x4])
  generalize upd H2 p3 (.tup [x2, x4]) = H3 at d3 u3 ⊢
  have t3 := t2.trans u3
  have a3 := ha.keep t3
  refine ⟨_, rfl, a, _, _, _, rfl, rfl, a3, rfl, _, rfl, a, _, _, _, rfl, rfl, a3, rfl, (by show 2 ≤ sizeLine; decide), fun p4 hp4 => ?_⟩
  have d4 : DV K (upd H3 p4 (.tup [x1, x4])) (.ref p4) (rayD (x.a, x.d)) := DV.upd2 hp4 (h1.keep t3) (h4.keep t3)
  have u4 := same_new hp4 (.tup [x1, x4])
  generalize upd H3 p4 (.tup [x1, x4]) = H4 at d4 u4 ⊢
  refine ⟨(by show 4 ≤ sizeLine; decide), fun p5 hp5 => ?_⟩
  have u5 := same_new hp5 (.lst [.ref p1, .ref p2, .ref p3, .ref p4])
  have hp51 : upd H4 p5 (.lst [.ref p1, .ref p2, .ref p3, .ref p4]) p5 = some (.lst [.ref p1, .ref p2, .ref p3, .ref p4]) := upd_same
  have hall : DVs K (upd H4 p5 (.lst [.ref p1, .ref p2, .ref p3, .ref p4])) [.ref p1, .ref p2, .ref p3, .ref p4] (x.four.map rayD) := .cons (d1.keep (u2.trans (u3.trans (u4.trans u5)))) (.cons (d2.keep (u3.trans (u4.trans u5))) (.cons (d3.keep (u4.trans u5)) (.cons (d4.keep u5) .nil)))
  have hl5 := (u1.trans (u2.trans (u3.trans (u4.trans u5)))) _ _ hl0
  have t5 := t3.trans (u4.trans u5)
  have np : p5 ≠ l := fun e => by rw [e, (u1.trans (u2.trans (u3.trans u4))) _ _ hl0] at hp5; cases hp5
  generalize upd H4 p5 (.lst [.ref p1, .ref p2, .ref p3, .ref p4]) = H5 at hp51 hall hl5 t5 ⊢
  clear u0 u1 u2 u3 u4 u5 t1 t2 t3 a0 a1 a2 a3 d1 d2 d3 d4
  refine ⟨p5, rfl, ⟨_, SqL.of hp51⟩, ?_⟩
  refine for_list (K := K) (a := p5) (xs := [.ref p1, .ref p2, .ref p3, .ref p4]) (fun i σ H' => ∃ c2 vs, σ = [some (.ref a), some (.ref l), c2] ∧ Same H H' ∧ H' p5 = some (.lst [.ref p1, .ref p2, .ref p3, .ref p4]) ∧ DVs K H' [.ref p1, .ref p2, .ref p3, .ref p4] (x.four.map rayD) ∧ H' l = some (.lst vs) ∧ DVs K H' vs ((dedI x.four i).map rayD)) ⟨_, [], rfl, t5, hp51, hall, hl5, .nil⟩ ?_ ?_ ?_
  · rintro i σ H' hi ⟨c2, vs, rfl, s3, hp, _⟩
    exact SqL.of hp
  · rintro i y σ H' hi ⟨c2, vs, rfl, s3, hp, hall, hlv, hvs⟩
    obtain ⟨d, hd, hy⟩ := hall.get hi
    obtain ⟨cr, hcr, rfl⟩ := get_map_ray hd
    have hle := dedI_le x.four i
    have hi4 : i < 4 := lt_of_get hi
    have vl : vs.length = (dedI x.four i).length := by have := hvs.len; rw [List.length_map] at this; exact this
    refine ⟨_, rfl, _, rfl, l, vs, _, _, rfl, SqL.of hlv, hy, hvs, rfl, (by show (rayD cr).depth ≤ 60; exact Nat.le_trans (flat_ray cr).d (by decide)), lay_rays _, _, rfl, ?_⟩
    rw [any_ray, mem_any]
    by_cases hm : cr ∈ dedI x.four i
    · refine iteF' (by rw [decide_eq_true hm]; rfl) ?_
      exact ⟨_, vs, rfl, s3, hp, hall, hlv, by rw [dedI_succ hcr, if_pos hm]; exact hvs⟩
    · refine iteT' (by rw [decide_eq_false hm]; rfl) ?_
      refine ⟨_, rfl, .inl ⟨rfl, _, SqL.of hlv⟩, ?_⟩
      refine ⟨_, rfl, l, vs, _, rfl, rfl, hlv, small1000 (by omega), ?_⟩
      have uT := sameT_upd hlv (.lst (vs ++ [y]))
      refine ⟨_, vs ++ [y], rfl, ?_, ?_, ?_, upd_same, ?_⟩
      · intro b o e
        rw [upd_ne (ne_of_none e nl)]
        exact s3 _ _ e
      · rw [upd_ne np]; exact hp
      · exact dvs_keepT uT (noLs_map noL_ray _) hall
      · rw [dedI_succ hcr, if_neg hm, List.map_append]
        exact dvs_keepT uT (by rw [← List.map_append]; exact noLs_map noL_ray _) (hvs.append (.cons hy .nil))
  · rintro σ H' ⟨c2, vs, rfl, s3, hp, hall, hlv, hvs⟩
    refine ⟨_, rfl, k _ _ s3 ?_⟩
    have e : boxC x = dedI x.four 4 := (dedI_len x.four).symm
    rw [e]
    exact .lst (SqL.of hlv) hvs
theorem c_edges_of (T : Txt K mg ad) : CalB P w K mg base true 4 "edges_of" ["limit"] (PR K REdges) := by
  have C_less_by := c_less_by (P := P) (w := w) (base := base) T
  refine T.t_edges_of.calN sc_edges_of (fun _ _ _ _ _ _ => by1 fun _ => rfl) (fun vs H Q E h => ?_) (fun f cdv A outer s H vs Q E hr h => ?_)
  · obtain ⟨_, _, dv, ⟨_, _, _, rfl, _⟩, _⟩ := h; exact dv.len
  obtain ⟨_, _, dv, ⟨l, n, M, rfl, lb, hn, hM, rfl⟩, k⟩ := h
  obtain ⟨_, rfl, hx⟩ := dv.one
  obtain ⟨a, x1, x2, x3, x4, rfl, ha, h1, h2, h3, h4⟩ := DV.t5 hx
  have z0 : Sm (0 : Rat) := (⟨by decide +kernel, by decide +kernel⟩ : Bd 1 (0 : Rat)).sm (by decide)
  refine ⟨_, (pss_cons (ps_set (i := 1) sc_edges_of.nd rfl (Or.inl rfl) (pe_ix ix_tup (pv 0) pe_int (fun _ _ => rfl))) (pss_cons (ps_set (i := 2) sc_edges_of.nd rfl (Or.inl rfl) (pe_ix ix_tup (pv 0) pe_int (fun _ _ => rfl))) (pss_cons (ps_set (i := 3) sc_edges_of.nd rfl (Or.inl rfl) (pe_tup (pa_name (pv 1) (pa_name (pv 2) (pa_call (pe_cB C_less_by (hr.mono (by decide)) pass01 (pa_name (pe_glob (v := .ref ad.NOUGHT) rfl T.ex.m_NOUGHT rfl) (pa_sub (pe_ix ix_tup (pv 0) pe_int (fun _ _ => rfl)) pa_nil))) pa_nil))))) (pss_cons (ps_set (i := 4) sc_edges_of.nd rfl (Or.inl rfl) (pe_tup (pa_call (pe_cB C_less_by (hr.mono (by decide)) pass01 (pa_name (pe_glob (v := .ref ad.NOUGHT) rfl T.ex.m_NOUGHT rfl) (pa_name (pv 1) pa_nil))) (pa_call (pe_cB C_less_by (hr.mono (by decide)) pass01 (pa_name (pe_glob (v := .ref ad.NOUGHT) rfl T.ex.m_NOUGHT rfl) (pa_name (pv 2) pa_nil))) (pa_sub (pe_ix ix_tup (pv 0) pe_int (fun _ _ => rfl)) pa_nil))))) (pss_one (ps_ret (pe_lst (pa_name (pv 3) (pa_name (pv 4) pa_nil))))))))), ?_⟩
  refine ⟨_, rfl, a, _, _, _, rfl, rfl, ha, rfl, _, rfl, a, _, _, _, rfl, rfl, ha, rfl, ?_⟩
  refine ⟨_, rfl, _, rfl, _, rfl, a, _, _, _, rfl, rfl, ha, rfl, _, _, .cons (dN T _) (.cons h3 .nil), ⟨0, _, rfl, z0, lb.lo.sm hM, rfl⟩, fun v1 H1 s1 hv1 => ?_⟩
  refine ⟨(by show 3 ≤ sizeLine; decide), fun p1 hp1 => ?_⟩
  have d1 : DV K (upd H1 p1 (.tup [x1, x2, v1])) (.ref p1) (edgD (upE l)) := DV.upd3 hp1 (h1.keep s1) (h2.keep s1) hv1
  have u1 := same_new hp1 (.tup [x1, x2, v1])
  generalize upd H1 p1 (.tup [x1, x2, v1]) = H2 at d1 u1 ⊢
  have t2 := s1.trans u1
  refine ⟨_, rfl, _, _, .cons (dN T _) (.cons (h1.keep t2) .nil), ⟨0, _, rfl, z0, lb.a.sm hn, rfl⟩, fun v2 H3 s3 hv2 => ?_⟩
  refine ⟨_, rfl, _, _, .cons (dN T _) (.cons (h2.keep (t2.trans s3)) .nil), ⟨0, _, rfl, z0, lb.b.sm hn, rfl⟩, fun v3 H4 s4 hv3 => ?_⟩
  have t4 := t2.trans (s3.trans s4)
  refine ⟨_, rfl, a, _, _, _, rfl, rfl, ha.keep t4, rfl, (by show 3 ≤ sizeLine; decide), fun p2 hp2 => ?_⟩
  have d2 : DV K (upd H4 p2 (.tup [v2, v3, x4])) (.ref p2) (edgD (dnE l)) := DV.upd3 hp2 (hv2.keep s4) hv3 (h4.keep t4)
  have u2 := same_new hp2 (.tup [v2, v3, x4])
  generalize upd H4 p2 (.tup [v2, v3, x4]) = H5 at d2 u2 ⊢
  refine ⟨_, rfl, _, rfl, (by show 2 ≤ sizeLine; decide), fun p3 hp3 => ?_⟩
  have u3 := same_new hp3 (.lst [.ref p1, .ref p2])
  refine k _ _ (t4.trans (u2.trans u3)) (.lst (SqL.of upd_same) (.cons (d1.keep (s3.trans (s4.trans (u2.trans u3)))) (.cons (d2.keep u3) .nil)))
theorem c_room_at (T : Txt K mg ad) : CalB P w K mg base true 4 "room_at" ["edge", "ray"] (PR K RRoom) := by
  have C_sum_of := c_sum_of (P := P) (w := w) (base := base) T
  have C_product_of := c_product_of (P := P) (w := w) (base := base) T
  refine T.t_room_at.calN sc_room_at (fun _ _ _ _ _ _ => by2 fun _ _ => rfl) (fun vs H Q E h => ?_) (fun f cdv A outer s H vs Q E hr h => ?_)
  · obtain ⟨_, _, dv, ⟨_, _, _, _, _, rfl, _⟩, _⟩ := h; exact dv.len
  obtain ⟨_, _, dv, ⟨e, r, n, M, c, rfl, eb, rb, hle, rfl⟩, k⟩ := h
  obtain ⟨_, _, rfl, hx, hy⟩ := dv.two
  obtain ⟨a, x1, x2, x3, rfl, ha, h1, h2, h3⟩ := DV.t3e hx
  obtain ⟨b, y1, y2, rfl, hb, g1, g2⟩ := DV.t2 hy
  refine ⟨_, (pss_one (ps_ret (pe_cB C_sum_of (hr.mono (by decide)) pass01 (pa_call (pe_cB C_sum_of (hr.mono (by decide)) pass01 (pa_call (pe_cB C_product_of (hr.mono (by decide)) pass01 (pa_sub (pe_ix ix_tup (pv 0) pe_int (fun _ _ => rfl)) (pa_sub (pe_ix ix_tup (pv 1) pe_int (fun _ _ => rfl)) pa_nil))) (pa_call (pe_cB C_product_of (hr.mono (by decide)) pass01 (pa_sub (pe_ix ix_tup (pv 0) pe_int (fun _ _ => rfl)) (pa_sub (pe_ix ix_tup (pv 1) pe_int (fun _ _ => rfl)) pa_nil))) pa_nil))) (pa_sub (pe_ix ix_tup (pv 0) pe_int (fun _ _ => rfl)) pa_nil))))), ?_⟩
  refine ⟨_, rfl, a, _, _, _, rfl, rfl, ha, rfl, _, rfl, b, _, _, _, rfl, rfl, hb, rfl, _, _, .cons h1 (.cons g1 .nil), ⟨_, _, rfl, eb.a.sm (by omega), rb.y.sm (by omega), rfl⟩, fun v1 H1 s1 hv1 => ?_⟩
  refine ⟨_, rfl, a, _, _, _, rfl, rfl, ha.keep s1, rfl, _, rfl, b, _, _, _, rfl, rfl, hb.keep s1, rfl, _, _, .cons (h2.keep s1) (.cons (g2.keep s1) .nil), ⟨_, _, rfl, eb.b.sm (by omega), rb.u.sm (by omega), rfl⟩, fun v2 H2 s2 hv2 => ?_⟩
  have e1 := eb.a.mul rb.y
  have e2 := eb.b.mul rb.u
  refine ⟨_, _, .cons (hv1.keep s2) (.cons hv2 .nil), ⟨_, _, rfl, e1.sm (by omega), e2.sm (by omega), rfl⟩, fun v3 H3 s3 hv3 => ?_⟩
  have t3 := s1.trans (s2.trans s3)
  refine ⟨_, rfl, a, _, _, _, rfl, rfl, ha.keep t3, rfl, _, _, .cons hv3 (.cons (h3.keep t3) .nil), ⟨_, _, rfl, (e1.add e2).sm (by omega), eb.c.sm (by omega), rfl⟩, fun v4 H4 s4 hv4 => ?_⟩
  exact k _ _ (t3.trans s4) hv4
theorem c_crossing_of (T : Txt K mg ad) : CalB P w K mg base true 4 "crossing_of" ["one", "other", "one_room", "other_room"] (PR K RCross) := by
  have C_sum_of := c_sum_of (P := P) (w := w) (base := base) T
  have C_product_of := c_product_of (P := P) (w := w) (base := base) T
  have C_less_by := c_less_by (P := P) (w := w) (base := base) T
  have C_quotient_of := c_quotient_of (P := P) (w := w) (base := base) T
  refine T.t_crossing_of.calN sc_crossing_of (fun _ _ _ _ _ _ => by4 fun _ _ _ _ => rfl) (fun vs H Q E h => ?_) (fun f cdv A outer s H vs Q E hr h => ?_)
  · obtain ⟨_, _, dv, ⟨_, _, _, _, _, _, rfl, _⟩, _⟩ := h; exact dv.len
  obtain ⟨_, _, dv, ⟨p, q, x, y, c, n, rfl, pb, qb, xb, yb, hne, hle, rfl⟩, k⟩ := h
  obtain ⟨_, _, rx, ry, rfl, hp, hq, hx, hy⟩ := dv.four
  obtain ⟨a, x1, x2, rfl, ha, h1, h2⟩ := DV.t2 hp
  obtain ⟨b, y1, y2, rfl, hb, g1, g2⟩ := DV.t2 hq
  refine ⟨_, (pss_cons (ps_set (i := 4) sc_crossing_of.nd rfl (Or.inl rfl) (pe_cB C_quotient_of (hr.mono (by decide)) pass01 (pa_name (pv 2) (pa_call (pe_cB C_less_by (hr.mono (by decide)) pass01 (pa_name (pv 2) (pa_name (pv 3) pa_nil))) pa_nil)))) (pss_cons (ps_set (i := 5) sc_crossing_of.nd rfl (Or.inl rfl) (pe_cB C_sum_of (hr.mono (by decide)) pass01 (pa_sub (pe_ix ix_tup (pv 0) pe_int (fun _ _ => rfl)) (pa_call (pe_cB C_product_of (hr.mono (by decide)) pass01 (pa_name (pv 4) (pa_call (pe_cB C_less_by (hr.mono (by decide)) pass01 (pa_sub (pe_ix ix_tup (pv 1) pe_int (fun _ _ => rfl)) (pa_sub (pe_ix ix_tup (pv 0) pe_int (fun _ _ => rfl)) pa_nil))) pa_nil))) pa_nil)))) (pss_cons (ps_set (i := 6) sc_crossing_of.nd rfl (Or.inl rfl) (pe_cB C_sum_of (hr.mono (by decide)) pass01 (pa_sub (pe_ix ix_tup (pv 0) pe_int (fun _ _ => rfl)) (pa_call (pe_cB C_product_of (hr.mono (by decide)) pass01 (pa_name (pv 4) (pa_call (pe_cB C_less_by (hr.mono (by decide)) pass01 (pa_sub (pe_ix ix_tup (pv 1) pe_int (fun _ _ => rfl)) (pa_sub (pe_ix ix_tup (pv 0) pe_int (fun _ _ => rfl)) pa_nil))) pa_nil))) pa_nil)))) (pss_one (ps_ret (pe_tup (pa_name (pv 5) (pa_name (pv 6) pa_nil)))))))), ?_⟩
  refine ⟨_, rfl, _, rfl, _, rfl, _, _, .cons hx (.cons hy .nil), ⟨_, _, rfl, xb.sm (by omega), yb.sm (by omega), rfl⟩, fun v1 H1 s1 hv1 => ?_⟩
  have e1 := xb.sub yb
  refine ⟨_, _, .cons (hx.keep s1) (.cons hv1 .nil), ⟨_, _, rfl, xb.sm (by omega), e1.sm (by omega), hne, rfl⟩, fun v2 H2 s2 hv2 => ?_⟩
  have e2 := xb.div e1 hne
  have t2 := s1.trans s2
  refine ⟨_, rfl, a, _, _, _, rfl, rfl, ha.keep t2, rfl, _, rfl, _, rfl, b, _, _, _, rfl, rfl, hb.keep t2, rfl, _, rfl, a, _, _, _, rfl, rfl, ha.keep t2, rfl, _, _, .cons (g1.keep t2) (.cons (h1.keep t2) .nil), ⟨_, _, rfl, qb.y.sm (by omega), pb.y.sm (by omega), rfl⟩, fun v3 H3 s3 hv3 => ?_⟩
  have e3 := qb.y.sub pb.y
  refine ⟨_, _, .cons (hv2.keep s3) (.cons hv3 .nil), ⟨_, _, rfl, e2.sm (by omega), e3.sm (by omega), rfl⟩, fun v4 H4 s4 hv4 => ?_⟩
  have t4 := t2.trans (s3.trans s4)
  refine ⟨_, _, .cons (h1.keep t4) (.cons hv4 .nil), ⟨_, _, rfl, pb.y.sm (by omega), (e2.mul e3).sm (by omega), rfl⟩, fun v5 H5 s5 hv5 => ?_⟩
  have t5 := t4.trans s5
  refine ⟨_, rfl, a, _, _, _, rfl, rfl, ha.keep t5, rfl, _, rfl, _, rfl, b, _, _, _, rfl, rfl, hb.keep t5, rfl, _, rfl, a, _, _, _, rfl, rfl, ha.keep t5, rfl, _, _, .cons (g2.keep t5) (.cons (h2.keep t5) .nil), ⟨_, _, rfl, qb.u.sm (by omega), pb.u.sm (by omega), rfl⟩, fun v6 H6 s6 hv6 => ?_⟩
  have e6 := qb.u.sub pb.u
  refine ⟨_, _, .cons (hv2.keep (s3.trans (s4.trans (s5.trans s6)))) (.cons hv6 .nil), ⟨_, _, rfl, e2.sm (by omega), e6.sm (by omega), rfl⟩, fun v7 H7 s7 hv7 => ?_⟩
  have t7 := t5.trans (s6.trans s7)
  refine ⟨_, _, .cons (h2.keep t7) (.cons hv7 .nil), ⟨_, _, rfl, pb.u.sm (by omega), (e2.mul e6).sm (by omega), rfl⟩, fun v8 H8 s8 hv8 => ?_⟩
  refine ⟨_, rfl, _, rfl, (by show 2 ≤ sizeLine; decide), fun p9 hp9 => ?_⟩
  exact k _ _ (t7.trans (s8.trans (same_new hp9 _))) (DV.upd2 hp9 (hv5.keep (s6.trans (s7.trans s8))) hv8)
end
end K48
namespace K48
open PySem L2 Lib Fr Op
seal PE PT PW PA PS PSs PG PGs PI PO PIfs
local macro_rules | `(tactic| walk_at "Zs") => `(tactic| first | with_reducible assumption | with_reducible exact Same.refl _ | exact zs1 (by with_reducible assumption) (by walk_at "Zs") | exact zs2 (by with_reducible assumption) (by walk_at "Zs"))
local macro_rules | `(tactic| walk_at "Zd") => `(tactic| first | with_reducible assumption | with_reducible exact DV.int _ | with_reducible exact DV.str _ | with_reducible exact DV.bl _ | with_reducible exact DV.non | exact zd1 (by first | with_reducible assumption | assumption) (by walk_at "Zs") | with_reducible exact dN (by assumption) _ | with_reducible exact dO (by assumption) _ | exact zd2 (by with_reducible assumption) (by walk_at "Zs") (by walk_at "Zd") (by walk_at "Zd") | exact zd3 (by with_reducible assumption) (by walk_at "Zs") (by walk_at "Zd") (by walk_at "Zd") (by walk_at "Zd") | exact zd4 (by with_reducible assumption) (by walk_at "Zs") (by walk_at "Zd") (by walk_at "Zd") (by walk_at "Zd") (by walk_at "Zd"))
local macro_rules | `(tactic| walk_at "Zt") => `(tactic| first | assumption | exact zt1 (by assumption) (by walk_at "Zs") | exact zt2 (by walk_at "Zs"))
local macro_rules | `(tactic| walk_at "Zl") => `(tactic| first | assumption | exact zl1 (by assumption) (by walk_at "Zs") | exact zl2 (by walk_at "Zs"))
local macro_rules | `(tactic| walk_at "Zv") => `(tactic| first | exact DVs.nil | exact DVs.cons (by walk_at "Zd") (by walk_at "Zv"))
local macro_rules | `(tactic| walk_at "Zb") => `(tactic| first | with_reducible assumption | exact bd_zero 1 (by decide) | exact bd_one 1 (by decide) | with_reducible exact Bd.mul (by walk_at "Zb") (by walk_at "Zb") | with_reducible exact Bd.add (by walk_at "Zb") (by walk_at "Zb") | with_reducible exact Bd.sub (by walk_at "Zb") (by walk_at "Zb") | with_reducible exact Tb.a (by with_reducible assumption) | with_reducible exact Tb.b (by with_reducible assumption) | with_reducible exact Tb.c (by with_reducible assumption) | with_reducible exact Tb.d (by with_reducible assumption) | with_reducible exact Rb.y (by with_reducible assumption) | with_reducible exact Rb.u (by with_reducible assumption))
local macro_rules | `(tactic| walk_at "Zm") => `(tactic| first | with_reducible assumption | with_reducible exact Sm.zero | with_reducible exact Sm.one | exact Bd.sm (by walk_at "Zb") (by first | decide | omega))
local macro_rules | `(tactic| walk_at "Zr") => `(tactic| first | exact ⟨_, _, rfl, by walk_at "Zm", by walk_at "Zm", rfl⟩ | exact ⟨_, _, rfl, by walk_at "Zm", by walk_at "Zm", by assumption, rfl⟩)
local macro_rules | `(tactic| walk_at "Zc") => `(tactic| (refine ⟨_, _, by walk_at "Zv", by walk_at "Zr", fun v H' s hv => ?_⟩; (first | (obtain rfl := DV.bl_of hv) | (have := (show DV _ _ _ (frD _) from hv); clear this) | (obtain ⟨a, x1, x2, x3, x4, rfl, ha, h1, h2, h3, h4⟩ := DV.t4 hv) | (obtain ⟨a, x1, x2, x3, rfl, ha, h1, h2, h3⟩ := DV.t3 hv) | (obtain ⟨a, x1, x2, rfl, ha, h1, h2⟩ := DV.t2 hv) | skip)))
local macro_rules | `(tactic| walk_at "Zp") => `(tactic| first | refine ⟨by (show 2 ≤ sizeLine; decide), fun p hp => ?_⟩ | refine ⟨by (show 3 ≤ sizeLine; decide), fun p hp => ?_⟩ | refine ⟨by (show 4 ≤ sizeLine; decide), fun p hp => ?_⟩)
local macro_rules | `(tactic| walk_at "Zn") => `(tactic| first | refine ⟨_, rfl, ?_⟩ | refine ⟨_, _, _, _, rfl, rfl, by walk_at "Zt", by rfl, ?_⟩ | refine ⟨_, _, rfl, rfl, ?_⟩)
local macro_rules | `(tactic| walk_at "Z1") => `(tactic| first | walk_at "Zn" | walk_at "Zp" | walk_at "Zc" | refine iteF ?_ | refine iteT ?_)
local macro_rules | `(tactic| walk_at "Z") => `(tactic| repeat walk_at "Z1")
section
variable {P : Program} {w : World} {K : PySem.W.Frag} {mg : Str → Option Value} {base : Heap} {ad : Adr} {c : Bool}
theorem c_is_before (T : Txt K mg ad) : CalB P w K mg base true 2 "is_before" ["one", "other"] (PR K RBef) := by
  have C_is_less := c_is_less (P := P) (w := w) (base := base) T
  refine T.t_is_before.calN sc_is_before (fun _ _ _ _ _ _ => by2 fun _ _ => rfl) (fun vs H Q E h => ?_) (fun f cdv A outer s H vs Q E hr h => ?_)
  · obtain ⟨_, _, dv, ⟨_, _, _, rfl, _⟩, _⟩ := h; exact dv.len
  obtain ⟨_, _, dv, ⟨r1, r2, n, rfl, b1, b2, hn, rfl⟩, k⟩ := h
  obtain ⟨_, _, rfl, hx, hy⟩ := dv.two
  obtain ⟨a, x1, x2, rfl, ha, hx1, hx2⟩ := DV.t2 hx
  obtain ⟨b, y1, y2, rfl, hb, hy1, hy2⟩ := DV.t2 hy
  refine ⟨_, (pss_cons (ps_if (pt_cmpR (op_neD hr.units) (pe_ix ix_tup (pv 0) pe_int (fun _ _ => rfl)) (pe_ix ix_tup (pv 1) pe_int (fun _ _ => rfl)) (nomark _)) (pss_one (ps_ret (pe_cB C_is_less (hr.mono (by decide)) pass01 (pa_sub (pe_ix ix_tup (pv 0) pe_int (fun _ _ => rfl)) (pa_sub (pe_ix ix_tup (pv 1) pe_int (fun _ _ => rfl)) pa_nil))))) pss_nil) (pss_one (ps_ret (pe_cB C_is_less (hr.mono (by decide)) pass01 (pa_sub (pe_ix ix_tup (pv 0) pe_int (fun _ _ => rfl)) (pa_sub (pe_ix ix_tup (pv 1) pe_int (fun _ _ => rfl)) pa_nil)))))), ?_⟩
  refine ⟨_, rfl, a, _, _, _, rfl, rfl, ha, rfl, _, rfl, b, _, _, _, rfl, rfl, hb, rfl, ne_frD hx1 hy1 ⟨_, rfl, ?_⟩⟩
  by_cases e : r1.1 = r2.1
  · refine iteF' (by rw [decide_eq_true e]; rfl) ?_
    refine ⟨_, rfl, a, _, _, _, rfl, rfl, ha, rfl, _, rfl, b, _, _, _, rfl, rfl, hb, rfl, _, _, .cons hx2 (.cons hy2 .nil), ⟨_, _, rfl, b1.u.sm hn, b2.u.sm hn, rfl⟩, fun v H1 s1 hv => ?_⟩
    refine k _ _ s1 ?_
    have e2 : befR r1 r2 = decide (r1.2 < r2.2) := by unfold befR; rw [if_pos e]
    rw [e2]
    exact hv
  · refine iteT' (by rw [decide_eq_false e]; rfl) ?_
    refine ⟨_, rfl, a, _, _, _, rfl, rfl, ha, rfl, _, rfl, b, _, _, _, rfl, rfl, hb, rfl, _, _, .cons hx1 (.cons hy1 .nil), ⟨_, _, rfl, b1.y.sm hn, b2.y.sm hn, rfl⟩, fun v H1 s1 hv => ?_⟩
    refine k _ _ s1 ?_
    have e2 : befR r1 r2 = decide (r1.1 < r2.1) := by unfold befR; rw [if_neg e]
    rw [e2]
    exact hv
theorem c_cut_by (T : Txt K mg ad) : CalB P w K mg base true 5 "cut_by" ["edge", "corners"] (PR K RCut) := by
  have C_room_at := c_room_at (P := P) (w := w) (base := base) T
  have C_crossing_of := c_crossing_of (P := P) (w := w) (base := base) T
  refine T.t_cut_by.calN sc_cut_by (fun _ _ _ _ _ _ => by2 fun _ _ => rfl) (fun vs H Q E h => ?_) (fun f cdv A outer s H vs Q E hr h => ?_)
  · obtain ⟨_, _, dv, ⟨_, _, _, _, _, rfl, _⟩, _⟩ := h; exact dv.len
  obtain ⟨_, _, dv, ⟨e, ps, n, M, c, rfl, eb, pb, hle, hps, rfl⟩, k⟩ := h
  obtain ⟨ev, _, rfl, he, hx⟩ := dv.two
  obtain ⟨a, xs, rfl, ha, hxs⟩ := DV.lst_of hx
  have hl : xs.length = ps.length := by have := hxs.len; rw [List.length_map] at this; exact this
  refine ⟨_, (pss_cons (ps_compX (i := 2) sc_cut_by.nd rfl (by first | exact Or.inl rfl | exact Or.inr rfl) ["corner", "edge"] [none, some 0] rfl (pi_list (pv 1)) (fun _ _ _ _ _ _ => (pg_name (i := 0) (show List.Nodup [("corner" : Str), ("edge" : Str)] by decide) rfl (by first | exact Or.inl rfl | exact Or.inr rfl))) (fun _ _ _ _ _ _ => pifs_nil) (fun _ _ _ _ _ _ => (pe_cB C_room_at (hr.mono (by decide)) pass01 (pa_name (pv 1) (pa_name (pv 0) pa_nil)))) (cap_def (hcell := by decide) (hf := (show ∀ y : Str × NameKind, y ∈ _ → y.2 = NameKind.free → (defScope s_cut_by).names.lookup y.1 = some NameKind.cell by decide))) (by decide) rfl (by decide) rfl (fun i j h => by
      rcases i with _ | _ | i
      · simp at h
      · simp at h; subst h; exact ⟨_, rfl, rfl, rfl, rfl⟩
      · simp at h)) (pss_cons (ps_set (i := 3) sc_cut_by.nd rfl (Or.inl rfl) (pe_lst pa_nil)) (pss_cons (ps_for PassesOwn.never rfl (pi_enum rfl T.enumerate (pa_name (pv 1) pa_nil)) (pg_tup (n := 2) rfl (pgs_cons (pg_name (i := 4) sc_cut_by.nd rfl (by first | exact Or.inl rfl | exact Or.inr rfl)) (pgs_cons (pg_name (i := 5) sc_cut_by.nd rfl (by first | exact Or.inl rfl | exact Or.inr rfl)) pgs_nil))) (pss_cons (ps_set (i := 6) sc_cut_by.nd rfl (Or.inl rfl) (pe_op op_sub (pv 4) pe_int)) (pss_cons (ps_if (pt_cmpR op_lt (pe_op op_mulW (pe_ix ix_tup (pe_ix ix_list (pv 2) (pv 6) (fun _ _ => rfl)) pe_int (fun _ _ => rfl)) (pe_ix ix_tup (pe_ix ix_list (pv 2) (pv 4) (fun _ _ => rfl)) pe_int (fun _ _ => rfl))) pe_int (nomark _)) (pss_cons (ps_set (i := 7) sc_cut_by.nd rfl (Or.inl rfl) (pe_cB C_crossing_of (hr.mono (by decide)) pass01 (pa_sub (pe_ix ix_list (pv 1) (pv 6) (fun _ _ => rfl)) (pa_name (pv 5) (pa_sub (pe_ix ix_list (pv 2) (pv 6) (fun _ _ => rfl)) (pa_sub (pe_ix ix_list (pv 2) (pv 4) (fun _ _ => rfl)) pa_nil)))))) (pss_one (ps_if (pt_cmpR (op_notInD hr.units) (pv 7) (pv 3) (by rfl)) (pss_one (ps_expr (pe_bm PySem.F.plainAttrs_list PySem.F.slot_list_append PySem.F.type_list_append mt_append (pv 3) (pa_name (pv 7) pa_nil)))) pss_nil))) pss_nil) (pss_one (ps_if (pt_cmpR op_ge (pe_ix ix_tup (pe_ix ix_list (pv 2) (pv 4) (fun _ _ => rfl)) pe_int (fun _ _ => rfl)) pe_int (nomark _)) (pss_one (ps_expr (pe_bm PySem.F.plainAttrs_list PySem.F.slot_list_append PySem.F.type_list_append mt_append (pv 3) (pa_name (pv 5) pa_nil)))) pss_nil))))) (pss_one (ps_ret (pv 3)))))), ?_⟩
  refine ⟨_, rfl, a, rfl, ⟨_, ha⟩, ?_⟩
  refine comp_list0 (K := K) (a := a) (xs := xs) (fun i σ ys H' => ∃ c0, σ = [c0, some ev] ∧ Same H H' ∧ DVs K H' ys (((ps.take i).map (roomR e)).map frD)) ⟨_, rfl, Same.refl _, .nil⟩ ?_ ?_ ?_
  · rintro i σ ys H' hi ⟨c0, rfl, s1, hys⟩
    refine ⟨Nat.le_of_lt (small1000 ?_), ha.keep s1⟩
    have := hys.len
    rw [List.length_map, List.length_map, List.length_take] at this
    omega
  · rintro i x σ ys H' hi ⟨c0, rfl, s1, hys⟩
    obtain ⟨d, hd, hx⟩ := hxs.get hi
    obtain ⟨cr, hcr, rfl⟩ := get_map_ray hd
    have bc := pb _ (List.mem_of_getElem? hcr)
    refine ⟨_, rfl, _, rfl, _, _, .cons (he.keep s1) (.cons (hx.keep s1) .nil), ⟨_, _, n, M, c, rfl, eb, bc, by omega, rfl⟩, fun v H2 s2 hv => ?_⟩
    refine nx (lt_of_get hi) ⟨_, rfl, s1.trans s2, ?_⟩
    rw [List.take_add_one, hcr, List.map_append, List.map_append]
    exact (hys.keep s2).append (.cons hv .nil)
  rintro σ' rs H1 lr ⟨c0, rfl, s1, hrs⟩ nlr
  rw [hl, List.take_length] at hrs
  have u1 := same_new nlr (.lst rs)
  have hlr : upd H1 lr (.lst rs) lr = some (.lst rs) := upd_same
  have hrs1 := hrs.keep u1
  have s2 := s1.trans u1
  generalize upd H1 lr (.lst rs) = H2 at u1 hlr hrs1 s2 ⊢
  have hrl : rs.length = ps.length := by have := hrs.len; rw [List.length_map, List.length_map] at this; exact this
  refine ⟨(by show 0 ≤ sizeLine; decide), fun l nl => ?_⟩
  have u3 := same_new nl (.lst [])
  have hl0 : upd H2 l (.lst []) l = some (.lst []) := upd_same
  have hlr3 := u3 _ _ hlr
  have hrs3 := hrs1.keep u3
  have s3 := s2.trans u3
  have nlH : H l = none := s2.free nl
  have nel : lr ≠ l := fun e => by rw [e, nl] at hlr; cases hlr
  generalize upd H2 l (.lst []) = H3 at u3 hl0 hlr3 hrs3 s3 ⊢
  refine ⟨_, rfl, a, rfl, ⟨_, ha.keep s3⟩, ?_⟩
  refine for_enum (K := K) (a := a) (xs := xs) (fun i σ H' => ∃ c4 c5 c6 c7 vs, σ = [some ev, some (.ref a), some (.ref lr), some (.ref l), c4, c5, c6, c7] ∧ Same H H' ∧ H' lr = some (.lst rs) ∧ DVs K H' rs ((ps.map (roomR e)).map frD) ∧ H' l = some (.lst vs) ∧ DVs K H' vs ((cutI e ps i).map rayD)) ⟨_, _, _, _, [], rfl, s3, hlr3, hrs3, hl0, .nil⟩ ?_ ?_ ?_
  · rintro i σ H' hi ⟨c4, c5, c6, c7, vs, rfl, s4, _⟩
    exact ha.keep s4
  · rintro i x σ H' p hi ⟨c4, c5, c6, c7, vs, rfl, s4, hlr4, hrs4, hlv, hvs⟩ hp
    have hi' := lt_of_get hi
    have up := same_new hp (.tup [.int i, x])
    obtain ⟨v0, hv0, hd0⟩ := dvs_prev hxs (i := i) (by omega)
    obtain ⟨v1, hv1, hd1⟩ := dvs_ray hxs (i := i) (by omega)
    cases hi.symm.trans hv1
    have vl : vs.length ≤ 2 * i := by
      have h1 := hvs.len
      rw [List.length_map] at h1
      have h2 := cutI_le e ps i
      omega
    have m0 := pb _ (prevR_mem (cs := ps) (i := i) (by omega))
    have m1 := pb _ (atR_mem (cs := ps) (i := i) (by omega))
    refine ⟨p, _, rfl, SqT.of upd_same, rfl, _, _, rfl, _, _, rfl, rfl, ?_⟩
    have s5 := s4.trans up
    have hlr5 := up _ _ hlr4
    have hrs5 := hrs4.keep up
    have hlv5 := up _ _ hlv
    have hvs5 := hvs.keep up
    have hd0 := hd0.keep s5
    have hd1 := hd1.keep s5
    generalize upd H' p (.tup [.int i, x]) = H5 at s5 hlr5 hrs5 hlv5 hvs5 hd0 hd1 ⊢
    clear up hlr4 hrs4 hlv hvs s4
    obtain ⟨w0, hw0, hr0⟩ := dvs_rprev hrs5 (i := i) (by omega)
    obtain ⟨w1, hw1, hr1⟩ := dvs_room hrs5 (i := i) (by omega)
    obtain ⟨q0, rfl, hq0⟩ := fr_at hr0
    obtain ⟨q1, rfl, hq1⟩ := fr_at hr1
    have b0 : Bd (2 * (c + n) + M + 2) (roomR e (prevR ps i)) := (((eb.a.mul m0.y).add (eb.b.mul m0.u)).add eb.c).mono (by omega)
    have b1 : Bd (2 * (c + n) + M + 2) (roomR e (atR ps i)) := (((eb.a.mul m1.y).add (eb.b.mul m1.u)).add eb.c).mono (by omega)
    have sz : CMulW (roomR e (prevR ps i)).num (roomR e (atR ps i)).num := ⟨Nat.lt_of_lt_of_le b0.n (pow_le (by omega)), Nat.lt_of_lt_of_le b1.n (pow_le (by omega))⟩
    have ec := cutI_succ e (ps := ps) (i := i) (by omega)
    unfold stepC at ec
    dsimp only at ec
    refine ⟨_, rfl, _, _, rfl, rfl, ?_⟩
    refine ⟨_, rfl, _, rfl, lr, _, _, _, rfl, rfl, SqL.of hlr5, hw0, q0, _, _, _, rfl, rfl, hq0, atI0, _, rfl, _, rfl, lr, _, _, _, rfl, rfl, SqL.of hlr5, atI_nat hw1, q1, _, _, _, rfl, rfl, hq1, atI0, _, _, rfl, rfl, sz, _, _, rfl, rfl, _, rfl, ?_⟩
    by_cases hx : roomR e (prevR ps i) * roomR e (atR ps i) < 0
    · refine iteT' (decide_eq_true ((num_mul _ _).mpr hx)) ?_
      have hne : roomR e (prevR ps i) - roomR e (atR ps i) ≠ 0 := by rcases mulneg hx with z | z <;> grind
      refine ⟨_, rfl, _, rfl, a, _, _, v0, rfl, rfl, ha.keep s5, hv0, _, rfl, _, rfl, _, rfl, lr, _, _, _, rfl, rfl, SqL.of hlr5, hw0, _, rfl, _, rfl, lr, _, _, _, rfl, rfl, SqL.of hlr5, atI_nat hw1, _, _, .cons hd0 (.cons hd1 (.cons hr0 (.cons hr1 .nil))), ⟨_, _, _, _, c, _, rfl, m0, m1, b0, b1, hne, hle, rfl⟩, fun cv H6 s6 hcv => ?_⟩
      have hcv : DV K H6 cv (rayD (crossP e (prevR ps i) (atR ps i))) := hcv
      have hlv6 := s6 _ _ hlv5
      have hvs6 := hvs5.keep s6
      have hlr6 := s6 _ _ hlr5
      have hrs6 := hrs5.keep s6
      have hq16 := hq1.keep s6
      have hd16 := hd1.keep s6
      have s06 := s5.trans s6
      refine ⟨_, rfl, _, rfl, l, vs, _, _, rfl, SqL.of hlv6, hcv, hvs6, rfl, (by show (rayD _).depth ≤ 60; exact Nat.le_trans (flat_ray _).d (by decide)), lay_rays _, _, rfl, ?_⟩
      rw [any_ray, mem_any]
      by_cases hm : crossP e (prevR ps i) (atR ps i) ∈ cutI e ps i
      · refine iteF' (by rw [decide_eq_true hm]; rfl) ?_
        rw [if_neg (fun z => z.2 hm)] at ec
        clear hvs5 hlv5 hrs5 hlr5 hd0 hd1 hr0 hr1 hq0 hq1
        refine ⟨_, rfl, _, rfl, lr, _, _, _, rfl, rfl, SqL.of hlr6, atI_nat hw1, q1, _, _, _, rfl, rfl, hq16, atI0, _, _, rfl, rfl, _, rfl, ?_⟩
        by_cases hn : 0 ≤ roomR e (atR ps i)
        · refine iteT' (decide_eq_true ((num_nn _).mpr hn)) ?_
          rw [if_pos hn] at ec
          refine ⟨_, rfl, .inl ⟨rfl, _, SqL.of hlv6⟩, ?_⟩
          refine ⟨_, rfl, l, vs, _, rfl, rfl, hlv6, small1000 (by omega), ?_⟩
          have uT := sameT_upd hlv6 (.lst (vs ++ [x]))
          refine ⟨_, _, _, _, vs ++ [x], rfl, ?_, ?_, ?_, upd_same, ?_⟩
          · intro b o e
            rw [upd_ne (ne_of_none e nlH)]
            exact s06 _ _ e
          · rw [upd_ne nel]; exact hlr6
          · exact dvs_keepT uT (noLs_map noL_fr _) hrs6
          · rw [ec, List.map_append]
            exact dvs_keepT uT (by rw [← List.map_append]; exact noLs_map noL_ray _) (hvs6.append (.cons hd16 .nil))
        · refine iteF' (decide_eq_false (fun z => hn ((num_nn _).mp z))) ?_
          rw [if_neg hn, List.append_nil] at ec
          exact ⟨_, _, _, _, vs, rfl, s06, hlr6, hrs6, hlv6, by rw [ec]; exact hvs6⟩
      · refine iteT' (by rw [decide_eq_false hm]; rfl) ?_
        rw [if_pos ⟨hx, hm⟩] at ec
        refine ⟨_, rfl, .inl ⟨rfl, _, SqL.of hlv6⟩, ?_⟩
        refine ⟨_, rfl, l, vs, _, rfl, rfl, hlv6, small1000 (by omega), ?_⟩
        have uT := sameT_upd hlv6 (.lst (vs ++ [cv]))
        have s06 : Same H (upd H6 l (.lst (vs ++ [cv]))) := fun b o e => by
          rw [upd_ne (ne_of_none e nlH)]
          exact s06 _ _ e
        have hlr6 : upd H6 l (.lst (vs ++ [cv])) lr = some (.lst rs) := by rw [upd_ne nel]; exact hlr6
        have hrs6 : DVs K (upd H6 l (.lst (vs ++ [cv]))) rs ((ps.map (roomR e)).map frD) := dvs_keepT uT (noLs_map noL_fr _) hrs6
        have hvs6 : DVs K (upd H6 l (.lst (vs ++ [cv]))) (vs ++ [cv]) ((cutI e ps i ++ [crossP e (prevR ps i) (atR ps i)]).map rayD) := by
          rw [List.map_append]
          exact dvs_keepT uT (by rw [← List.map_append]; exact noLs_map noL_ray _) (hvs6.append (.cons hcv .nil))
        have hq16 : SqT K (upd H6 l (.lst (vs ++ [cv]))) q1 _ := sqT_keepT uT hq16
        have hd16 : DV K (upd H6 l (.lst (vs ++ [cv]))) x (rayD (atR ps i)) := dv_keepT uT (noL_ray _) hd16
        have hlv6 : upd H6 l (.lst (vs ++ [cv])) l = some (.lst (vs ++ [cv])) := upd_same
        have vl : (vs ++ [cv]).length ≤ 2 * i + 1 := by rw [List.length_append]; simp; omega
        clear uT hcv s6
        generalize upd H6 l (.lst (vs ++ [cv])) = H6 at s06 hlr6 hrs6 hvs6 hq16 hd16 hlv6 ⊢
        generalize vs ++ [cv] = vs at hvs6 hlv6 vl ⊢
        clear hvs5 hlv5 hrs5 hlr5 hd0 hd1 hr0 hr1 hq0 hq1
        refine ⟨_, rfl, _, rfl, lr, _, _, _, rfl, rfl, SqL.of hlr6, atI_nat hw1, q1, _, _, _, rfl, rfl, hq16, atI0, _, _, rfl, rfl, _, rfl, ?_⟩
        by_cases hn : 0 ≤ roomR e (atR ps i)
        · refine iteT' (decide_eq_true ((num_nn _).mpr hn)) ?_
          rw [if_pos hn] at ec
          refine ⟨_, rfl, .inl ⟨rfl, _, SqL.of hlv6⟩, ?_⟩
          refine ⟨_, rfl, l, vs, _, rfl, rfl, hlv6, small1000 (by omega), ?_⟩
          have uT := sameT_upd hlv6 (.lst (vs ++ [x]))
          refine ⟨_, _, _, _, vs ++ [x], rfl, ?_, ?_, ?_, upd_same, ?_⟩
          · intro b o e
            rw [upd_ne (ne_of_none e nlH)]
            exact s06 _ _ e
          · rw [upd_ne nel]; exact hlr6
          · exact dvs_keepT uT (noLs_map noL_fr _) hrs6
          · rw [ec, List.map_append]
            exact dvs_keepT uT (by rw [← List.map_append]; exact noLs_map noL_ray _) (hvs6.append (.cons hd16 .nil))
        · refine iteF' (decide_eq_false (fun z => hn ((num_nn _).mp z))) ?_
          rw [if_neg hn, List.append_nil] at ec
          exact ⟨_, _, _, _, vs, rfl, s06, hlr6, hrs6, hlv6, by rw [ec]; exact hvs6⟩
    · refine iteF' (decide_eq_false (fun z => hx ((num_mul _ _).mp z))) ?_
      rw [if_neg (fun z => hx z.1)] at ec
      have s06 := s5
      have hlr6 := hlr5
      have hrs6 := hrs5
      have hvs6 := hvs5
      have hlv6 := hlv5
      have hq16 := hq1
      have hd16 := hd1
      refine ⟨_, rfl, _, rfl, lr, _, _, _, rfl, rfl, SqL.of hlr6, atI_nat hw1, q1, _, _, _, rfl, rfl, hq16, atI0, _, _, rfl, rfl, _, rfl, ?_⟩
      by_cases hn : 0 ≤ roomR e (atR ps i)
      · refine iteT' (decide_eq_true ((num_nn _).mpr hn)) ?_
        rw [if_pos hn] at ec
        refine ⟨_, rfl, .inl ⟨rfl, _, SqL.of hlv6⟩, ?_⟩
        refine ⟨_, rfl, l, vs, _, rfl, rfl, hlv6, small1000 (by omega), ?_⟩
        have uT := sameT_upd hlv6 (.lst (vs ++ [x]))
        refine ⟨_, _, _, _, vs ++ [x], rfl, ?_, ?_, ?_, upd_same, ?_⟩
        · intro b o e
          rw [upd_ne (ne_of_none e nlH)]
          exact s06 _ _ e
        · rw [upd_ne nel]; exact hlr6
        · exact dvs_keepT uT (noLs_map noL_fr _) hrs6
        · rw [ec, List.map_append]
          exact dvs_keepT uT (by rw [← List.map_append]; exact noLs_map noL_ray _) (hvs6.append (.cons hd16 .nil))
      · refine iteF' (decide_eq_false (fun z => hn ((num_nn _).mp z))) ?_
        rw [if_neg hn, List.append_nil] at ec
        exact ⟨_, _, _, _, vs, rfl, s06, hlr6, hrs6, hlv6, by rw [ec]; exact hvs6⟩
  · rintro σ H' ⟨c4, c5, c6, c7, vs, rfl, s4, hlr4, hrs4, hlv, hvs⟩
    rw [hl, cutI_len] at hvs
    exact ⟨_, rfl, k _ _ s4 (.lst (SqL.of hlv) hvs)⟩
end
end K48
namespace K48
open PySem L2 Lib Fr Op
seal PE PT PW PA PS PSs PG PGs PI PO PIfs
local macro_rules | `(tactic| walk_at "Zs") => `(tactic| first | with_reducible assumption | with_reducible exact Same.refl _ | exact zs1 (by with_reducible assumption) (by walk_at "Zs") | exact zs2 (by with_reducible assumption) (by walk_at "Zs"))
local macro_rules | `(tactic| walk_at "Zd") => `(tactic| first | with_reducible assumption | with_reducible exact DV.int _ | with_reducible exact DV.str _ | with_reducible exact DV.bl _ | with_reducible exact DV.non | exact zd1 (by first | with_reducible assumption | assumption) (by walk_at "Zs") | with_reducible exact dN (by assumption) _ | with_reducible exact dO (by assumption) _ | exact zd2 (by with_reducible assumption) (by walk_at "Zs") (by walk_at "Zd") (by walk_at "Zd") | exact zd3 (by with_reducible assumption) (by walk_at "Zs") (by walk_at "Zd") (by walk_at "Zd") (by walk_at "Zd") | exact zd4 (by with_reducible assumption) (by walk_at "Zs") (by walk_at "Zd") (by walk_at "Zd") (by walk_at "Zd") (by walk_at "Zd"))
local macro_rules | `(tactic| walk_at "Zt") => `(tactic| first | assumption | exact zt1 (by assumption) (by walk_at "Zs") | exact zt2 (by walk_at "Zs"))
local macro_rules | `(tactic| walk_at "Zl") => `(tactic| first | assumption | exact zl1 (by assumption) (by walk_at "Zs") | exact zl2 (by walk_at "Zs"))
local macro_rules | `(tactic| walk_at "Zv") => `(tactic| first | exact DVs.nil | exact DVs.cons (by walk_at "Zd") (by walk_at "Zv"))
local macro_rules | `(tactic| walk_at "Zb") => `(tactic| first | with_reducible assumption | exact bd_zero 1 (by decide) | exact bd_one 1 (by decide) | with_reducible exact Bd.mul (by walk_at "Zb") (by walk_at "Zb") | with_reducible exact Bd.add (by walk_at "Zb") (by walk_at "Zb") | with_reducible exact Bd.sub (by walk_at "Zb") (by walk_at "Zb") | with_reducible exact Tb.a (by with_reducible assumption) | with_reducible exact Tb.b (by with_reducible assumption) | with_reducible exact Tb.c (by with_reducible assumption) | with_reducible exact Tb.d (by with_reducible assumption) | with_reducible exact Rb.y (by with_reducible assumption) | with_reducible exact Rb.u (by with_reducible assumption))
local macro_rules | `(tactic| walk_at "Zm") => `(tactic| first | with_reducible assumption | with_reducible exact Sm.zero | with_reducible exact Sm.one | exact Bd.sm (by walk_at "Zb") (by first | decide | omega))
local macro_rules | `(tactic| walk_at "Zr") => `(tactic| first | exact ⟨_, _, rfl, by walk_at "Zm", by walk_at "Zm", rfl⟩ | exact ⟨_, _, rfl, by walk_at "Zm", by walk_at "Zm", by assumption, rfl⟩)
local macro_rules | `(tactic| walk_at "Zc") => `(tactic| (refine ⟨_, _, by walk_at "Zv", by walk_at "Zr", fun v H' s hv => ?_⟩; (first | (obtain rfl := DV.bl_of hv) | (have := (show DV _ _ _ (frD _) from hv); clear this) | (obtain ⟨a, x1, x2, x3, x4, rfl, ha, h1, h2, h3, h4⟩ := DV.t4 hv) | (obtain ⟨a, x1, x2, x3, rfl, ha, h1, h2, h3⟩ := DV.t3 hv) | (obtain ⟨a, x1, x2, rfl, ha, h1, h2⟩ := DV.t2 hv) | skip)))
local macro_rules | `(tactic| walk_at "Zp") => `(tactic| first | refine ⟨by (show 2 ≤ sizeLine; decide), fun p hp => ?_⟩ | refine ⟨by (show 3 ≤ sizeLine; decide), fun p hp => ?_⟩ | refine ⟨by (show 4 ≤ sizeLine; decide), fun p hp => ?_⟩)
local macro_rules | `(tactic| walk_at "Zn") => `(tactic| first | refine ⟨_, rfl, ?_⟩ | refine ⟨_, _, _, _, rfl, rfl, by walk_at "Zt", by rfl, ?_⟩ | refine ⟨_, _, rfl, rfl, ?_⟩)
local macro_rules | `(tactic| walk_at "Z1") => `(tactic| first | walk_at "Zn" | walk_at "Zp" | walk_at "Zc" | refine iteF ?_ | refine iteT ?_)
local macro_rules | `(tactic| walk_at "Z") => `(tactic| repeat walk_at "Z1")
section
variable {P : Program} {w : World} {K : PySem.W.Frag} {mg : Str → Option Value} {base : Heap} {ad : Adr} {c : Bool}
theorem c_turn_of (T : Txt K mg ad) : CalB P w K mg base true 4 "turn_of" ["start", "end", "ray"] (PR K RTurn2) := by
  have C_less_by := c_less_by (P := P) (w := w) (base := base) T
  have C_product_of := c_product_of (P := P) (w := w) (base := base) T
  refine T.t_turn_of.calN sc_turn_of (fun _ _ _ _ _ _ => by3 fun _ _ _ => rfl) (fun vs H Q E h => ?_) (fun f cdv A outer s H vs Q E hr h => ?_)
  · obtain ⟨_, _, dv, ⟨_, _, _, _, _, rfl, _⟩, _⟩ := h; exact dv.len
  obtain ⟨_, _, dv, ⟨r1, r2, r3, n, m, rfl, b1, b2, b3, hn, rfl⟩, k⟩ := h
  obtain ⟨_, _, _, rfl, hx, hy, hz⟩ := dv.three
  obtain ⟨a, x1, x2, rfl, ha, hx1, hx2⟩ := DV.t2 hx
  obtain ⟨b, y1, y2, rfl, hb, hy1, hy2⟩ := DV.t2 hy
  obtain ⟨d, z1, z2, rfl, hd, hz1, hz2⟩ := DV.t2 hz
  refine ⟨_, (pss_cons (ps_set (i := 3) sc_turn_of.nd rfl (Or.inl rfl) (pe_cB C_product_of (hr.mono (by decide)) pass01 (pa_call (pe_cB C_less_by (hr.mono (by decide)) pass01 (pa_sub (pe_ix ix_tup (pv 1) pe_int (fun _ _ => rfl)) (pa_sub (pe_ix ix_tup (pv 0) pe_int (fun _ _ => rfl)) pa_nil))) (pa_call (pe_cB C_less_by (hr.mono (by decide)) pass01 (pa_sub (pe_ix ix_tup (pv 2) pe_int (fun _ _ => rfl)) (pa_sub (pe_ix ix_tup (pv 0) pe_int (fun _ _ => rfl)) pa_nil))) pa_nil)))) (pss_cons (ps_set (i := 4) sc_turn_of.nd rfl (Or.inl rfl) (pe_cB C_product_of (hr.mono (by decide)) pass01 (pa_call (pe_cB C_less_by (hr.mono (by decide)) pass01 (pa_sub (pe_ix ix_tup (pv 1) pe_int (fun _ _ => rfl)) (pa_sub (pe_ix ix_tup (pv 0) pe_int (fun _ _ => rfl)) pa_nil))) (pa_call (pe_cB C_less_by (hr.mono (by decide)) pass01 (pa_sub (pe_ix ix_tup (pv 2) pe_int (fun _ _ => rfl)) (pa_sub (pe_ix ix_tup (pv 0) pe_int (fun _ _ => rfl)) pa_nil))) pa_nil)))) (pss_one (ps_ret (pe_cB C_less_by (hr.mono (by decide)) pass01 (pa_name (pv 3) (pa_name (pv 4) pa_nil))))))), ?_⟩
  refine ⟨_, rfl, b, _, _, _, rfl, rfl, hb, rfl, _, rfl, a, _, _, _, rfl, rfl, ha, rfl, _, _, .cons hy1 (.cons hx1 .nil), ⟨_, _, rfl, b2.y.sm (by omega), b1.y.sm (by omega), rfl⟩, fun v1 H1 s1 hv1 => ?_⟩
  refine ⟨_, rfl, d, _, _, _, rfl, rfl, hd.keep s1, rfl, _, rfl, a, _, _, _, rfl, rfl, ha.keep s1, rfl, _, _, .cons (hz2.keep s1) (.cons (hx2.keep s1) .nil), ⟨_, _, rfl, b3.u.sm (by omega), b1.u.sm (by omega), rfl⟩, fun v2 H2 s2 hv2 => ?_⟩
  have e1 := b2.y.sub b1.y
  have e2 := b3.u.sub b1.u
  refine ⟨_, _, .cons (hv1.keep s2) (.cons hv2 .nil), ⟨_, _, rfl, e1.sm (by omega), e2.sm (by omega), rfl⟩, fun v3 H3 s3 hv3 => ?_⟩
  have t3 := s1.trans (s2.trans s3)
  refine ⟨_, rfl, b, _, _, _, rfl, rfl, hb.keep t3, rfl, _, rfl, a, _, _, _, rfl, rfl, ha.keep t3, rfl, _, _, .cons (hy2.keep t3) (.cons (hx2.keep t3) .nil), ⟨_, _, rfl, b2.u.sm (by omega), b1.u.sm (by omega), rfl⟩, fun v4 H4 s4 hv4 => ?_⟩
  have t4 := t3.trans s4
  refine ⟨_, rfl, d, _, _, _, rfl, rfl, hd.keep t4, rfl, _, rfl, a, _, _, _, rfl, rfl, ha.keep t4, rfl, _, _, .cons (hz1.keep t4) (.cons (hx1.keep t4) .nil), ⟨_, _, rfl, b3.y.sm (by omega), b1.y.sm (by omega), rfl⟩, fun v5 H5 s5 hv5 => ?_⟩
  have e4 := b2.u.sub b1.u
  have e5 := b3.y.sub b1.y
  refine ⟨_, _, .cons (hv4.keep s5) (.cons hv5 .nil), ⟨_, _, rfl, e4.sm (by omega), e5.sm (by omega), rfl⟩, fun v6 H6 s6 hv6 => ?_⟩
  refine ⟨_, rfl, _, rfl, _, _, .cons (hv3.keep (s4.trans (s5.trans s6))) (.cons hv6 .nil), ⟨_, _, rfl, (e1.mul e2).sm (by omega), (e4.mul e5).sm (by omega), rfl⟩, fun v7 H7 s7 hv7 => ?_⟩
  exact k _ _ (t4.trans (s5.trans (s6.trans s7))) hv7
theorem c_is_within (T : Txt K mg ad) : CalB P w K mg base true 5 "is_within" ["corners", "ray"] (PR K RWithin2) := by
  have C_is_less := c_is_less (P := P) (w := w) (base := base) T
  have C_turn_of := c_turn_of (P := P) (w := w) (base := base) T
  have C_is_before := c_is_before (P := P) (w := w) (base := base) T
  refine T.t_is_within.calN sc_is_within (fun _ _ _ _ _ _ => by2 fun _ _ => rfl) (fun vs H Q E h => ?_) (fun f cdv A outer s H vs Q E hr h => ?_)
  · obtain ⟨_, _, dv, ⟨_, _, _, _, rfl, _⟩, _⟩ := h; exact dv.len
  obtain ⟨_, _, dv, ⟨cs, r, n, m, rfl, bc, br, hn, hcs, rfl⟩, k⟩ := h
  obtain ⟨_, y, rfl, hx, hy⟩ := dv.two
  obtain ⟨a, xs, rfl, ha, hxs⟩ := DV.lst_of hx
  have hl : xs.length = cs.length := by have := hxs.len; rw [List.length_map] at this; exact this
  refine ⟨_, (pss_cons (ps_if (pt_cmpR op_lt (pe_callB call_len_seq rfl T.len bt_len (pa_name (pv 0) pa_nil)) pe_int (nomark _)) (pss_one (ps_ret (pe_cmpR (op_inD hr.units) (pv 1) (pv 0) (by rfl)))) pss_nil) (pss_cons (ps_for PassesOwn.never rfl (pi_enum rfl T.enumerate (pa_name (pv 0) pa_nil)) (pg_tup (n := 2) rfl (pgs_cons (pg_name (i := 2) sc_is_within.nd rfl (by first | exact Or.inl rfl | exact Or.inr rfl)) (pgs_cons (pg_name (i := 3) sc_is_within.nd rfl (by first | exact Or.inl rfl | exact Or.inr rfl)) pgs_nil))) (pss_one (ps_if (pt_val (pe_cB C_is_less (hr.mono (by decide)) pass01 (pa_call (pe_cB C_turn_of (hr.mono (by decide)) pass01 (pa_sub (pe_ix ix_list (pv 0) (pe_op op_sub (pv 2) pe_int) (fun _ _ => rfl)) (pa_name (pv 3) (pa_name (pv 1) pa_nil)))) (pa_name (pe_glob (v := .ref ad.NOUGHT) rfl T.ex.m_NOUGHT rfl) pa_nil)))) (pss_one (ps_ret pe_bl)) pss_nil))) (pss_cons (ps_if (pt_cmpR op_gt (pe_callB call_len_seq rfl T.len bt_len (pa_name (pv 0) pa_nil)) pe_int (nomark _)) (pss_one (ps_ret pe_bl)) pss_nil) (pss_one (ps_ret (pe_and (pe_not (pe_cB C_is_before (hr.mono (by decide)) pass01 (pa_name (pv 1) (pa_sub (pe_ix ix_list (pv 0) pe_int (fun _ _ => rfl)) pa_nil)))) (pe_one (pe_not (pe_cB C_is_before (hr.mono (by decide)) pass01 (pa_sub (pe_ix ix_list (pv 0) pe_int (fun _ _ => rfl)) (pa_name (pv 1) pa_nil))))))))))), ?_⟩
  refine ⟨_, rfl, a, _, rfl, .inl ha, _, _, rfl, rfl, _, rfl, ?_⟩
  by_cases h2 : cs.length < 2
  · refine iteT' (decide_eq_true (by omega)) ?_
    refine ⟨_, rfl, _, rfl, a, xs, _, _, rfl, ha, hy, hxs, rfl, (by show (rayD r).depth ≤ 60; exact Nat.le_trans (flat_ray r).d (by decide)), lay_rays cs, ?_⟩
    have e : withinR cs r = (cs.map rayD).any (fun d => PyData.eqv d (rayD r)) := by unfold withinR; rw [if_pos h2, any_ray]
    refine k _ _ (Same.refl _) ?_
    rw [e]
    exact .bl _
  · refine iteF' (decide_eq_false (by omega)) ?_
    refine ⟨_, rfl, a, rfl, ⟨_, ha⟩, ?_⟩
    refine for_enum (K := K) (a := a) (xs := xs) (fun i σ H' => ∃ c2 c3, σ = [some (.ref a), some y, c2, c3] ∧ Same H H' ∧ leftTo cs r i = true) ⟨_, _, rfl, Same.refl _, rfl⟩ ?_ ?_ ?_
    · rintro i σ H' hi ⟨c2, c3, rfl, s1, _⟩
      exact ha.keep s1
    · rintro i x σ H' p hi ⟨c2, c3, rfl, s1, hlt⟩ hp
      have hlt' := lt_of_get hi
      have s2 := s1.trans (same_new hp (.tup [.int i, x]))
      obtain ⟨v0, hv0, hd0⟩ := dvs_prev hxs (i := i) (by omega)
      obtain ⟨v1, hv1, hd1⟩ := dvs_ray hxs (i := i) (by omega)
      cases hi.symm.trans hv1
      refine ⟨p, _, rfl, SqT.of upd_same, rfl, _, _, rfl, _, _, rfl, rfl, ?_⟩
      have m1 := bc _ (prevR_mem (cs := cs) (i := i) (by omega))
      have m2 := bc _ (atR_mem (cs := cs) (i := i) (by omega))
      refine ⟨_, rfl, _, rfl, _, _, rfl, rfl, a, _, _, v0, rfl, rfl, ha.keep s2, hv0, _, rfl, _, rfl, _, _, .cons (hd0.keep s2) (.cons (hd1.keep s2) (.cons (hy.keep s2) .nil)), ⟨_, _, _, n, m, rfl, m1, m2, br, hn, rfl⟩, fun v H3 s3 hv => ?_⟩
      have bt : Bd (6 * n + 2 * m + 5) (turnR (prevR cs i) (atR cs i) r) := (((m2.y.sub m1.y).mul (br.u.sub m1.u)).sub ((m2.u.sub m1.u).mul (br.y.sub m1.y))).mono (by omega)
      refine ⟨_, _, .cons hv (.cons (.tup (T.ex.s_NOUGHT _) (.cons (.int _) (.cons (.int _) .nil))) .nil), ⟨_, 0, rfl, bt.sm (by omega), (⟨by decide +kernel, by decide +kernel⟩ : Bd 1 (0 : Rat)).sm (by decide), rfl⟩, fun v4 H4 s4 hv4 => ?_⟩
      obtain rfl := hv4.bl_of
      refine ⟨_, rfl, ?_⟩
      cases hb : decide (turnR (prevR cs i) (atR cs i) r < 0) with
      | true =>
        refine iteT ?_
        refine k _ _ (s2.trans (s3.trans s4)) ?_
        have e : leftTo cs r cs.length = false := by
          cases e : leftTo cs r cs.length with
          | false => rfl
          | true => exact absurd (of_decide_eq_true hb) ((left_iff cs r _).mp e i (by omega))
        have e2 : withinR cs r = false := by unfold withinR; rw [if_neg h2, e]; rfl
        rw [e2]
        exact .bl _
      | false =>
        refine iteF ⟨_, _, rfl, s2.trans (s3.trans s4), ?_⟩
        rw [leftTo, hlt, hb]
        rfl
    · rintro σ H' ⟨c2, c3, rfl, s1, hlt⟩
      rw [hl] at hlt
      refine ⟨_, rfl, a, _, rfl, .inl (ha.keep s1), _, _, rfl, rfl, _, rfl, ?_⟩
      by_cases h3 : 2 < cs.length
      · refine iteT' (decide_eq_true (by omega)) ?_
        refine k _ _ s1 ?_
        have e2 : withinR cs r = true := by unfold withinR; rw [if_neg h2, hlt, if_pos h3]; rfl
        rw [e2]
        exact .bl _
      · refine iteF' (decide_eq_false (by omega)) ?_
        obtain ⟨v0, hv0, hd0⟩ := dvs_ray hxs (i := 0) (by omega)
        obtain ⟨v1, hv1, hd1⟩ := dvs_ray hxs (i := 1) (by omega)
        have m0 := bc _ (atR_mem (cs := cs) (i := 0) (by omega))
        have m1 := bc _ (atR_mem (cs := cs) (i := 1) (by omega))
        have m0 : Rn (n + m) (atR cs 0) := ⟨m0.y.mono (by omega), m0.u.mono (by omega)⟩
        have m1 : Rn (n + m) (atR cs 1) := ⟨m1.y.mono (by omega), m1.u.mono (by omega)⟩
        have br : Rn (n + m) r := ⟨br.y.mono (by omega), br.u.mono (by omega)⟩
        have ew : withinR cs r = (!befR r (atR cs 0) && !befR (atR cs 1) r) := by unfold withinR; rw [if_neg h2, hlt, if_neg h3]; rfl
        refine ⟨_, rfl, _, rfl, a, _, _, v0, rfl, rfl, ha.keep s1, atI_nat (j := 0) hv0, _, _, .cons (hy.keep s1) (.cons (hd0.keep s1) .nil), ⟨_, _, n + m, rfl, br, m0, by omega, rfl⟩, fun v5 H5 s5 hv5 => ?_⟩
        obtain rfl := hv5.bl_of
        refine ⟨_, rfl, _, rfl, ?_⟩
        cases hb : befR r (atR cs 0) with
        | true =>
          refine iteF ?_
          refine k _ _ (s1.trans s5) ?_
          rw [ew, hb]
          exact .bl _
        | false =>
          refine iteT ?_
          have t5 := s1.trans s5
          refine ⟨_, rfl, a, _, _, v1, rfl, rfl, ha.keep t5, atI_nat (j := 1) hv1, _, rfl, _, _, .cons (hd1.keep t5) (.cons (hy.keep t5) .nil), ⟨_, _, n + m, rfl, m1, br, by omega, rfl⟩, fun v6 H6 s6 hv6 => ?_⟩
          obtain rfl := hv6.bl_of
          refine ⟨_, rfl, ?_⟩
          refine k _ _ (t5.trans s6) ?_
          rw [ew, hb]
          exact .bl _
theorem c_from_the_least (T : Txt K mg ad) : CalB P w K mg base true 3 "from_the_least" ["corners"] (spFrom K) := by
  have C_is_before := c_is_before (P := P) (w := w) (base := base) T
  refine T.t_from_the_least.calN sc_from_the_least (fun _ _ _ _ _ _ => by1 fun _ => rfl) (fun vs H Q E h => ?_) (fun f cdv A outer s H vs Q E hr h => ?_)
  · obtain ⟨_, _, _, rfl, _⟩ := h; rfl
  obtain ⟨cv, cs, n, rfl, hx, bc, hn, hcs, q⟩ := h
  obtain ⟨a, xs, rfl, ha, hxs⟩ := DV.lst_of hx
  have hl : xs.length = cs.length := by have := hxs.len; rw [List.length_map] at this; exact this
  refine ⟨_, (pss_cons (ps_set (i := 1) sc_from_the_least.nd rfl (Or.inl rfl) pe_int) (pss_cons (ps_for PassesOwn.never rfl (pi_enum rfl T.enumerate (pa_name (pv 0) pa_nil)) (pg_tup (n := 2) rfl (pgs_cons (pg_name (i := 2) sc_from_the_least.nd rfl (by first | exact Or.inl rfl | exact Or.inr rfl)) (pgs_cons (pg_name (i := 3) sc_from_the_least.nd rfl (by first | exact Or.inl rfl | exact Or.inr rfl)) pgs_nil))) (pss_one (ps_if (pt_val (pe_cB C_is_before (hr.mono (by decide)) pass01 (pa_name (pv 3) (pa_sub (pe_ix ix_list (pv 0) (pv 1) (fun _ _ => rfl)) pa_nil)))) (pss_one (ps_set (i := 1) sc_from_the_least.nd rfl (Or.inl rfl) (pv 2))) pss_nil))) (pss_one (ps_ret (pe_op op_cat (pe_slice sl_list (pv 0) (po_some (pv 1)) po_none) (pe_slice sl_list (pv 0) po_none (po_some (pv 1)))))))), ?_⟩
  refine ⟨_, rfl, a, rfl, ⟨_, ha⟩, ?_⟩
  refine for_enum (K := K) (a := a) (xs := xs) (fun i σ H' => ∃ c2 c3, σ = [some (.ref a), some (.int (leastI cs i : Nat)), c2, c3] ∧ Same H H') ⟨_, _, rfl, Same.refl _⟩ ?_ ?_ ?_
  · rintro i σ H' hi ⟨c2, c3, rfl, s1⟩
    exact ha.keep s1
  · rintro i x σ H' p hi ⟨c2, c3, rfl, s1⟩ hp
    have hlt' := lt_of_get hi
    have s2 := s1.trans (same_new hp (.tup [.int i, x]))
    have hll : leastI cs i < cs.length := by
      cases i with
      | zero => show 0 < cs.length; omega
      | succ j => have := least_lt cs (j + 1) (by omega); omega
    obtain ⟨v0, hv0, hd0⟩ := dvs_ray hxs (i := leastI cs i) hll
    obtain ⟨v1, hv1, hd1⟩ := dvs_ray hxs (i := i) (by omega)
    cases hi.symm.trans hv1
    refine ⟨p, _, rfl, SqT.of upd_same, rfl, _, _, rfl, _, _, rfl, rfl, ?_⟩
    have m1 := bc _ (atR_mem (cs := cs) hll)
    have m2 := bc _ (atR_mem (cs := cs) (i := i) (by omega))
    refine ⟨_, rfl, _, rfl, _, rfl, a, _, _, v0, rfl, rfl, ha.keep s2, atI_nat hv0, _, _, .cons (hd1.keep s2) (.cons (hd0.keep s2) .nil), ⟨_, _, n, rfl, m2, m1, hn, rfl⟩, fun v H3 s3 hv => ?_⟩
    obtain rfl := hv.bl_of
    refine ⟨_, rfl, ?_⟩
    cases hb : befR (atR cs i) (atR cs (leastI cs i)) with
    | true =>
      refine iteT ⟨_, rfl, some (.int (i : Int)), some x, ?_, s2.trans s3⟩
      rw [leastI, if_pos hb]
      rfl
    | false =>
      refine iteF ⟨some (.int (i : Int)), some x, ?_, s2.trans s3⟩
      rw [leastI, if_neg (by rw [hb]; decide)]
      rfl
  · rintro σ H' ⟨c2, c3, rfl, s1⟩
    rw [hl]
    have ha1 := ha.keep s1
    refine ⟨_, rfl, _, rfl, _, rfl, a, xs, rfl, ha1, fun p1 hp1 => ?_⟩
    have u1 := same_new hp1 (.lst (cutV xs (some ((leastI cs cs.length : Nat) : Int)) none))
    have hp11 : upd H' p1 (.lst (cutV xs (some ((leastI cs cs.length : Nat) : Int)) none)) p1 = some (.lst (xs.drop (leastI cs cs.length))) := by rw [← cut_drop]; exact upd_same
    generalize upd H' p1 (.lst (cutV xs (some ((leastI cs cs.length : Nat) : Int)) none)) = H2 at u1 hp11 ⊢
    have ha2 := ha1.keep u1
    refine ⟨_, rfl, _, rfl, _, rfl, a, xs, rfl, ha2, fun p2 hp2 => ?_⟩
    have u2 := same_new hp2 (.lst (cutV xs none (some ((leastI cs cs.length : Nat) : Int))))
    have hp21 : upd H2 p2 (.lst (cutV xs none (some ((leastI cs cs.length : Nat) : Int)))) p2 = some (.lst (xs.take (leastI cs cs.length))) := by rw [← cut_take]; exact upd_same
    generalize upd H2 p2 (.lst (cutV xs none (some ((leastI cs cs.length : Nat) : Int)))) = H3 at u2 hp21 ⊢
    refine ⟨p1, p2, _, _, rfl, rfl, u2 _ _ hp11, hp21, ?_, fun p3 hp3 => ?_⟩
    · refine Nat.le_of_lt (small1000 ?_)
      rw [List.length_drop, List.length_take]
      omega
    have t3 := s1.trans (u1.trans (u2.trans (same_new hp3 (.lst (xs.drop (leastI cs cs.length) ++ xs.take (leastI cs cs.length))))))
    refine q p3 _ _ t3 ((s1.trans (u1.trans u2)).free hp3) upd_same ?_
    unfold rotL
    rw [List.map_append, List.map_drop, List.map_take]
    exact DVs.keep t3 ((DVs.drop _ hxs).append (DVs.take _ hxs))
end
end K48
namespace K48
open PySem L2 Lib Fr Op
seal PE PT PW PA PS PSs PG PGs PI PO PIfs
section
variable {P : Program} {w : World} {K : PySem.W.Frag} {mg : Str → Option Value} {base : Heap} {ad : Adr} {c : Bool}
theorem l_field_of (T : Txt K mg ad) : CalB P w K mg base true 6 "field_of" ["bench", "box"] (spFieldL K) := by
  have C_limits_of := c_limits_of (P := P) (w := w) (base := base) T
  have C_look_at_box := c_look_at_box (P := P) (w := w) (base := base) T
  have C_corners_of := c_corners_of (P := P) (w := w) (base := base) T
  have C_edges_of := c_edges_of (P := P) (w := w) (base := base) T
  have C_cut_by := c_cut_by (P := P) (w := w) (base := base) T
  have C_from_the_least := c_from_the_least (P := P) (w := w) (base := base) T
  refine T.t_field_of.calN sc_field_of (fun _ _ _ _ _ _ => by2 fun _ _ => rfl) (fun vs H Q E h => ?_) (fun f cdv A outer s H vs Q E hr h => ?_)
  · obtain ⟨_, _, _, _, _, _, _, _, rfl, _⟩ := h; rfl
  obtain ⟨bv, xv, ps, x, m, L, n, M, rfl, hb, hx, g, hm, fo, hnM, q⟩ := h
  have hps := g.len
  have hll := lims_len ps 0 e1 e2
  have pol := fun i => polyL_all (L := L) (n := n) (M := M) ((lims ps).take i) (polyL_box fo.ok fo.bd fo.pos) (fun l hl => fo.lim l (List.mem_of_mem_take hl))
  have hle : ∀ i, ((lims ps).take i).length ≤ ps.length := fun i => Nat.le_trans (show ((lims ps).take i).length ≤ (lims ps).length by rw [List.length_take]; omega) hll
  refine ⟨_, (pss_cons (ps_set (i := 2) sc_field_of.nd rfl (Or.inl rfl) (pe_cB C_limits_of (hr.mono (by decide)) pass01 (pa_name (pv 0) pa_nil))) (pss_cons (ps_expr (pe_cB C_look_at_box (hr.mono (by decide)) pass01 (pa_name (pv 1) pa_nil))) (pss_cons (ps_set (i := 3) sc_field_of.nd rfl (Or.inl rfl) (pe_cB C_corners_of (hr.mono (by decide)) pass01 (pa_name (pv 1) pa_nil))) (pss_cons (ps_for PassesOwn.never rfl (pi_list (pv 2)) (pg_name (i := 4) sc_field_of.nd rfl (by first | exact Or.inl rfl | exact Or.inr rfl)) (pss_one (ps_for PassesOwn.never rfl (pi_list (pe_cB C_edges_of (hr.mono (by decide)) pass01 (pa_name (pv 4) pa_nil))) (pg_name (i := 5) sc_field_of.nd rfl (by first | exact Or.inl rfl | exact Or.inr rfl)) (pss_one (ps_set (i := 3) sc_field_of.nd rfl (Or.inl rfl) (pe_cB C_cut_by (hr.mono (by decide)) pass01 (pa_name (pv 5) (pa_name (pv 3) pa_nil)))))))) (pss_one (ps_ret (pe_cB C_from_the_least (hr.mono (by decide)) pass01 (pa_name (pv 3) pa_nil)))))))), ?_⟩
  refine ⟨_, rfl, bv, ps, m, rfl, hb, g, hm, fun l rs H1 s1 nl hl hrs => ?_⟩
  have hlen : rs.length = (lims ps).length := by have := hrs.len; rw [List.length_map] at this; exact this
  refine ⟨_, rfl, _, _, .cons (hx.keep s1) .nil, ⟨x, L, rfl, fo.ok, fo.bd, by omega, rfl⟩, fun v2 H2 s2 _ => ?_⟩
  refine ⟨_, rfl, _, _, .cons (hx.keep (s1.trans s2)) .nil, ⟨x, rfl, rfl⟩, fun cv H3 s3 hcv => ?_⟩
  have t3 := s1.trans (s2.trans s3)
  have hl3 := (s2.trans s3) _ _ hl
  have hrs3 := hrs.keep (s2.trans s3)
  refine ⟨_, rfl, l, rfl, ⟨_, SqL.of hl3⟩, ?_⟩
  refine for_list (K := K) (a := l) (xs := rs) (fun i σ H' => ∃ cv c4 c5, σ = [some bv, some xv, some (.ref l), some cv, c4, c5] ∧ Same H3 H' ∧ DV K H' cv (raysD (fieldF ((lims ps).take i) (boxC x)))) ⟨cv, _, _, rfl, Same.refl _, hcv⟩ ?_ ?_ ?_
  · rintro i σ H' hi ⟨cv, c4, c5, rfl, s4, _⟩
    exact SqL.of (s4 _ _ hl3)
  · rintro i y σ H' hi ⟨cv, c4, c5, rfl, s4, hcv⟩
    obtain ⟨d, hd, hy⟩ := hrs3.get hi
    obtain ⟨lm, hlm, rfl⟩ := get_map_lim hd
    have ll := fo.lim _ (List.mem_of_getElem? hlm)
    have lb := ll.b
    have pi := pol i
    have hli := hle i
    refine ⟨_, rfl, _, _, .cons (hy.keep s4) .nil, ⟨lm, n, M, rfl, lb, by omega, by omega, rfl⟩, fun ev H5 s5 hev => ?_⟩
    obtain ⟨le, es, rfl, hle5, hes⟩ := DV.lst_of hev
    obtain ⟨ea, eb, rfl, hea, heb⟩ := hes.two
    rw [fieldF_snoc hlm]
    generalize fieldF ((lims ps).take i) (boxC x) = cs at hcv pi ⊢
    refine ⟨le, rfl, ⟨_, hle5⟩, ?_⟩
    refine for_list (K := K) (a := le) (xs := [ea, eb]) (fun j σ H' => ∃ cv c4 c5, σ = [some bv, some xv, some (.ref l), some cv, c4, c5] ∧ Same H5 H' ∧ DV K H' cv (raysD (cutJ cs lm j))) ⟨cv, _, _, rfl, Same.refl _, hcv.keep s5⟩ ?_ ?_ ?_
    · rintro j σ H' hj ⟨cv, c4, c5, rfl, s6, _⟩
      exact hle5.keep s6
    · rintro j y σ H' hj ⟨cv, c4, c5, rfl, s6, hcv⟩
      match j, hj with
      | 0, hj =>
        cases hj
        have pn := pi.len
        refine ⟨_, rfl, _, rfl, _, _, .cons (hea.keep s6) (.cons hcv .nil), ⟨_, _, n, M, _, rfl, lb.up, pi.rn, by omega, by show cs.length ≤ 200; omega, rfl⟩, fun nv H7 s7 hnv => ?_⟩
        exact ⟨nv, _, _, rfl, s6.trans s7, hnv⟩
      | 1, hj =>
        cases hj
        have pj := polyL_cut pi ll.u lb.up.z
        have pn := pj.len
        refine ⟨_, rfl, _, rfl, _, _, .cons (heb.keep s6) (.cons hcv .nil), ⟨_, _, n, M, _, rfl, lb.dn, pj.rn, by omega, by show (cutS (upE lm) cs).length ≤ 200; omega, rfl⟩, fun nv H7 s7 hnv => ?_⟩
        exact ⟨nv, _, _, rfl, s6.trans s7, hnv⟩
      | j + 2, hj => cases hj
    · rintro σ H' ⟨cv, c4, c5, rfl, s6, hcv⟩
      exact ⟨cv, _, _, rfl, s4.trans (s5.trans s6), hcv⟩
  · rintro σ H' ⟨cv, c4, c5, rfl, s4, hcv⟩
    have pe := pol rs.length
    have hle' := hle rs.length
    have pn := pe.len
    rw [hlen, List.take_length] at hcv pe pn
    refine ⟨_, rfl, cv, _, _, rfl, hcv, pe.rn, by omega, by rw [hlen, List.take_length] at hle'; omega, fun l2 rs2 H5 s5 nl2 hl2 hrs2 => ?_⟩
    have t5 := t3.trans s4
    exact q l2 rs2 H5 (t5.trans s5) (t5.free nl2) hl2 hrs2
end
end K48
namespace K48
open PySem L2 Lib Fr Op
seal PE PT PW PA PS PSs PG PGs PI PO PIfs
section
variable {P : Program} {w : World} {K : PySem.W.Frag} {mg : Str → Option Value} {base : Heap} {ad : Adr} {c : Bool}
theorem c__law_cell_at (T : Txt K mg ad) : CalB P w K mg base true 1 "_law_cell_at" ["_law_script", "_law_k"] (spCell K) := by
  refine T.t__law_cell_at.calN sc__law_cell_at (fun _ _ _ _ _ _ => by2 fun _ _ => rfl) (fun vs H Q E h => ?_) (fun f cdv A outer s H vs Q E hr h => ?_)
  · obtain ⟨_, _, _, rfl, _⟩ := h; rfl
  obtain ⟨a, ns, k, rfl, hS, k0, q⟩ := h
  refine ⟨_, (pss_cons (ps_if (pt_cmpR op_lt (pv 1) (pe_callB call_len_seq rfl T.len bt_len (pa_name (pv 0) pa_nil)) (nomark _)) (pss_one (ps_ret (pe_ix ix_list (pv 0) (pv 1) (fun _ _ => rfl)))) pss_nil) (pss_one (ps_ret pe_int))), ?_⟩
  refine ⟨_, rfl, _, rfl, a, _, rfl, .inl hS, _, _, rfl, rfl, _, rfl, ?_⟩
  refine ite2 (fun hc => ?_) (fun _ => q 0)
  have hc : k < (((ns.map V.int).length : Nat) : Int) := of_decide_eq_true hc
  obtain ⟨v, hv, hm⟩ := atI_in (xs := ns.map V.int) k0 hc
  obtain ⟨z, _, rfl⟩ := List.mem_map.mp hm
  exact ⟨_, rfl, _, rfl, a, _, _, _, rfl, rfl, hS, hv, q z⟩
theorem c__law_box (T : Txt K mg ad) : CalB P w K mg base true 4 "_law_box" ["_law_cell"] (spBox48 K) := by
  have C__law_ratio := c__law_ratio (P := P) (w := w) (base := base) T
  have C__law_mix := c__law_mix (P := P) (w := w) (base := base) T
  have C_sum_of := c_sum_of (P := P) (w := w) (base := base) T
  have C_ratio_of := c_ratio_of (P := P) (w := w) (base := base) T
  refine T.t__law_box.calN sc__law_box (fun _ _ _ _ _ _ => by1 fun _ => rfl) (fun vs H Q E h => ?_) (fun f cdv A outer s H vs Q E hr h => ?_)
  · obtain ⟨_, rfl, _⟩ := h; rfl
  obtain ⟨z, rfl, q⟩ := h
  have p7 : (2 : Nat) ^ 7 = 128 := by decide
  refine ⟨_, (pss_cons (ps_set (i := 1) sc__law_box.nd rfl (Or.inl rfl) (pe_cB C__law_ratio (hr.mono (by decide)) pass01 (pa_name (pv 0) (pa_const pe_int pa_nil)))) (pss_cons (ps_set (i := 2) sc__law_box.nd rfl (Or.inl rfl) (pe_cB C__law_ratio (hr.mono (by decide)) pass01 (pa_name (pv 0) (pa_const pe_int pa_nil)))) (pss_cons (ps_set (i := 3) sc__law_box.nd rfl (Or.inl rfl) (pe_cB C_ratio_of (hr.mono (by decide)) pass01 (pa_bin (pe_op op_add pe_int (pe_cB C__law_mix (hr.mono (by decide)) pass01 (pa_name (pv 0) (pa_const pe_int (pa_const pe_int pa_nil))))) (pa_bin (pe_op op_add pe_int (pe_cB C__law_mix (hr.mono (by decide)) pass01 (pa_name (pv 0) (pa_const pe_int (pa_const pe_int pa_nil))))) pa_nil)))) (pss_one (ps_ret (pe_tup (pa_name (pv 1) (pa_call (pe_cB C_sum_of (hr.mono (by decide)) pass01 (pa_name (pv 1) (pa_name (pv 3) pa_nil))) (pa_name (pv 2) (pa_call (pe_cB C_sum_of (hr.mono (by decide)) pass01 (pa_name (pv 2) (pa_call (pe_cB C_ratio_of (hr.mono (by decide)) pass01 (pa_bin (pe_op op_add pe_int (pe_cB C__law_mix (hr.mono (by decide)) pass01 (pa_name (pv 0) (pa_const pe_int (pa_const pe_int pa_nil))))) (pa_const pe_int pa_nil))) pa_nil))) pa_nil)))))))))), ?_⟩
  refine ⟨_, rfl, z, _, rfl, by decide, by decide, fun v1 H1 q1 s1 hv1 b1 => ?_⟩
  refine ⟨_, rfl, z, _, rfl, by decide, by decide, fun v2 H2 q2 s2 hv2 b2 => ?_⟩
  refine ⟨_, rfl, z, _, _, rfl, by decide, by decide, by decide, fun x3 x30 x31 => ⟨_, _, rfl, rfl, ?_⟩⟩
  refine ⟨_, rfl, z, _, _, rfl, by decide, by decide, by decide, fun x4 x40 x41 => ⟨_, _, rfl, rfl, ?_⟩⟩
  have c0 : (1 + x4 : Int) ≠ 0 := by omega
  have cs : (1 + x4 : Int).natAbs < 2 ^ 7 := by omega
  refine ⟨_, _, rfl, c0, Nat.lt_of_lt_of_le cs (by unfold lim; exact pow_le (by decide)), fun pw hpw => ?_⟩
  have uw := same_new hpw (.tup [.int (Fr.lt (2 + x3) (1 + x4)), .int (Fr.lb (2 + x3) (1 + x4))])
  have hwv : DV K _ (.ref pw) (frD (Rat.divInt (2 + x3) (1 + x4))) := dv_low (H := H2) c0
  have wb : Bd 7 (Rat.divInt (2 + x3) (1 + x4)) := Bd.of c0 (by omega) cs
  have nw := div_pb (show 0 < 2 + x3 by omega) (show 0 < 1 + x4 by omega)
  generalize Rat.divInt (2 + x3) (1 + x4) = wq at hwv wb nw
  generalize upd H2 pw (.tup [.int (Fr.lt (2 + x3) (1 + x4)), .int (Fr.lb (2 + x3) (1 + x4))]) = H3 at uw hwv ⊢
  have t3 := s2.trans uw
  refine ⟨_, rfl, _, rfl, _, rfl, _, _, .cons (hv1.keep t3) (.cons hwv .nil), ⟨_, _, rfl, b1.sm (by decide), wb.sm (by decide), rfl⟩, fun v5 H5 s5 hv5 => ?_⟩
  refine ⟨_, rfl, _, rfl, _, rfl, z, _, _, rfl, by decide, by decide, by decide, fun y3 y30 y31 => ⟨_, _, rfl, rfl, ?_⟩⟩
  have cs3 : (3 : Int).natAbs < 2 ^ 7 := by omega
  refine ⟨_, _, rfl, (by decide), Nat.lt_of_lt_of_le cs3 (by unfold lim; exact pow_le (by decide)), fun ps hps => ?_⟩
  have us := same_new hps (.tup [.int (Fr.lt (2 + y3) 3), .int (Fr.lb (2 + y3) 3)])
  have hsv : DV K _ (.ref ps) (frD (Rat.divInt (2 + y3) 3)) := dv_low (H := H5) (by decide)
  have sb : Bd 7 (Rat.divInt (2 + y3) 3) := Bd.of (by decide) (by omega) cs3
  have nsq := div_pb (show 0 < 2 + y3 by omega) (show (0 : Int) < 3 by decide)
  generalize Rat.divInt (2 + y3) 3 = sq at hsv sb nsq
  generalize upd H5 ps (.tup [.int (Fr.lt (2 + y3) 3), .int (Fr.lb (2 + y3) 3)]) = H6 at us hsv ⊢
  have t6 := uw.trans (s5.trans us)
  refine ⟨_, _, .cons (hv2.keep t6) (.cons hsv .nil), ⟨_, _, rfl, b2.sm (by decide), sb.sm (by decide), rfl⟩, fun v7 H7 s7 hv7 => ?_⟩
  refine ⟨(by show 4 ≤ sizeLine; decide), fun p8 hp8 => ?_⟩
  have t7 := t6.trans s7
  refine q _ _ ⟨q1, q1 + wq, q2, q2 + sq⟩ (s1.trans (s2.trans (t7.trans (same_new hp8 _)))) (DV.upd4 hp8 (hv1.keep (s2.trans t7)) (hv5.keep (us.trans s7)) (hv2.keep t7) hv7) ⟨?_, ?_, b1, ?_, b2, ?_, ⟨b1.mono (by decide), (b1.add wb).mono (by decide), b2.mono (by decide), (b2.add sb).mono (by decide)⟩⟩
  · show q1 < q1 + wq; grind
  · show q2 < q2 + sq; grind
  · show Bd 7 (q1 + wq - q1)
    rw [show q1 + wq - q1 = wq by grind]; exact wb
  · show Bd 7 (q2 + sq - q2)
    rw [show q2 + sq - q2 = sq by grind]; exact sb
end
end K48
namespace K48
open PySem L2 Lib Fr Op
seal PE PT PW PA PS PSs PG PGs PI PO PIfs
section
variable {P : Program} {w : World} {K : PySem.W.Frag} {mg : Str → Option Value} {base : Heap} {ad : Adr} {c : Bool}
theorem c__law_pieces (T : Txt K mg ad) : CalB P w K mg base true 4 "_law_pieces" ["_law_cells"] (spPcs48 K) := by
  have C__law_ratio := c__law_ratio (P := P) (w := w) (base := base) T
  refine T.t__law_pieces.calN sc__law_pieces (fun _ _ _ _ _ _ => by1 fun _ => rfl) (fun vs H Q E h => ?_) (fun f cdv A outer s H vs Q E hr h => ?_)
  · obtain ⟨_, _, rfl, _⟩ := h; rfl
  obtain ⟨a, ns, rfl, hS, h3, q⟩ := h
  refine ⟨_, (pss_one (ps_ret (pe_comp ["_law_cell"] [none] rfl (pi_list (pv 0)) (fun _ _ _ _ _ => (pg_name (i := 0) (show List.Nodup [("_law_cell" : Str)] by decide) rfl (by first | exact Or.inl rfl | exact Or.inr rfl))) (fun _ _ _ _ _ => pifs_nil) (fun _ _ _ _ _ => (pe_ix (ix_listK (K := K)) (pe_lst (pa_tuple (pe_tup (pa_const pe_str (pa_call (pe_cB C__law_ratio (hr.mono (by decide)) pass01 (pa_name (pv 0) (pa_const pe_int pa_nil))) pa_nil))) (pa_tuple (pe_tup (pa_const pe_str (pa_call (pe_cB C__law_ratio (hr.mono (by decide)) pass01 (pa_name (pv 0) (pa_const pe_int pa_nil))) pa_nil))) pa_nil))) (pe_op op_mod (pv 0) pe_int) (fun _ _ => rfl))) (cap_nil (by decide) (by decide)) (by decide) rfl (by decide) rfl (nocap rfl)))), ?_⟩
  refine ⟨_, rfl, a, rfl, ⟨_, hS⟩, ?_⟩
  refine comp_list0 (K := K) (a := a) (xs := ns.map V.int) (fun i σ ys H' => ∃ c0 ps, σ = [c0] ∧ Same H H' ∧ DVs K H' ys (ps.map pcD) ∧ ps.length = i ∧ ∀ p ∈ ps, Pl48 p) ⟨_, [], rfl, Same.refl _, .nil, rfl, fun _ h => nomatch h⟩ ?_ ?_ ?_
  · rintro i σ ys H' hi ⟨c0, ps, rfl, s', hys, rfl, _⟩
    refine ⟨?_, hS.keep s'⟩
    have := hys.len
    rw [List.length_map] at this hi
    exact Nat.le_of_lt (small1000 (by omega))
  · rintro i v σ ys H' hi ⟨c0, ps, rfl, s', hys, rfl, pl⟩
    obtain ⟨z, _, rfl⟩ := List.mem_map.mp (List.mem_of_getElem? hi)
    refine ⟨_, rfl, z, _, rfl, by decide, by decide, fun v1 H1 q1 s1 hv1 b1 => ?_⟩
    refine ⟨(by show 2 ≤ sizeLine; decide), fun p1 hp1 => ?_⟩
    have u1 := same_new hp1 (.tup [.str "gap", v1])
    have d1 : DV K (upd H1 p1 (.tup [.str "gap", v1])) (.ref p1) (pcD (.gap q1)) := .tup (SqT.of upd_same) (.cons (.str _) (.cons (hv1.keep u1) .nil))
    generalize upd H1 p1 (.tup [.str "gap", v1]) = G1 at u1 d1 ⊢
    refine ⟨_, rfl, z, _, rfl, by decide, by decide, fun v2 H2 q2 s2 hv2 b2 => ?_⟩
    refine ⟨(by show 2 ≤ sizeLine; decide), fun p2 hp2 => ?_⟩
    have u2 := same_new hp2 (.tup [.str "glass", v2])
    have d2 : DV K (upd H2 p2 (.tup [.str "glass", v2])) (.ref p2) (pcD (.glass q2)) := .tup (SqT.of upd_same) (.cons (.str _) (.cons (hv2.keep u2) .nil))
    generalize upd H2 p2 (.tup [.str "glass", v2]) = G2 at u2 d2 ⊢
    refine ⟨(by show 2 ≤ sizeLine; decide), fun p3 hp3 => ?_⟩
    have u3 := same_new hp3 (.lst [.ref p1, .ref p2])
    have l3 : upd G2 p3 (.lst [.ref p1, .ref p2]) p3 = some (.lst [.ref p1, .ref p2]) := upd_same
    have d1 := d1.keep (s2.trans (u2.trans u3))
    have d2 := d2.keep u3
    have t3 := s1.trans (u1.trans (s2.trans (u2.trans u3)))
    generalize upd G2 p3 (.lst [.ref p1, .ref p2]) = G3 at l3 d1 d2 t3 ⊢
    obtain ⟨v, hv, hm⟩ := atI_in (xs := [V.ref p1, .ref p2]) (r := z % 2) (by omega) (by simp only [List.length_cons, List.length_nil]; omega)
    obtain ⟨p, hp, hpl⟩ : ∃ p : Pc, DV K G3 v (pcD p) ∧ Pl48 p := by
      simp only [List.mem_cons, List.not_mem_nil, or_false] at hm
      rcases hm with rfl | rfl
      · exact ⟨_, d1, trivial, b1, rfl⟩
      · exact ⟨_, d2, trivial, b2, rfl⟩
    refine ⟨_, rfl, _, _, rfl, rfl, (by show (0 : Int) < 2; decide), p3, _, _, v, rfl, rfl, SqL.of l3, hv, nx (lt_of_get hi) ⟨_, ps ++ [p], rfl, s'.trans t3, ?_, by rw [List.length_append]; rfl, fun p' hp' => ?_⟩⟩
    · rw [List.map_append]; exact (hys.keep t3).append (.cons hp .nil)
    · rcases List.mem_append.mp hp' with h | h
      · exact pl p' h
      · rw [List.mem_singleton.mp h]; exact hpl
  · rintro σ ys H' p ⟨c0, ps, rfl, s', hys, hl, pl⟩ hp
    rw [List.length_map] at hl
    exact q p _ ys ps (s'.trans (same_new hp _)) (s'.free hp) upd_same (hys.keep (same_new hp _)) hl pl
theorem c__law_height (T : Txt K mg ad) : CalB P w K mg base true 4 "_law_height" ["_law_pieces_here", "_law_ray"] (spHgt48 K) := by
  have C_sum_of := c_sum_of (P := P) (w := w) (base := base) T
  have C_product_of := c_product_of (P := P) (w := w) (base := base) T
  have C_less_by := c_less_by (P := P) (w := w) (base := base) T
  refine T.t__law_height.calN sc__law_height (fun _ _ _ _ _ _ => by2 fun _ _ => rfl) (fun vs H Q E h => ?_) (fun f cdv A outer s H vs Q E hr h => ?_)
  · obtain ⟨_, _, _, _, _, rfl, _⟩ := h; rfl
  obtain ⟨v, rv, ps, r, n, rfl, hv, hrv, pl, l3, rb, n3, q⟩ := h
  refine ⟨_, (pss_cons (ps_asg (pv 1) (pg_tup (n := 2) rfl (pgs_cons (pg_name (i := 2) sc__law_height.nd rfl (by first | exact Or.inl rfl | exact Or.inr rfl)) (pgs_cons (pg_name (i := 3) sc__law_height.nd rfl (by first | exact Or.inl rfl | exact Or.inr rfl)) pgs_nil)))) (pss_cons (ps_for PassesOwn.never rfl (pi_list (pv 0)) (pg_name (i := 4) sc__law_height.nd rfl (by first | exact Or.inl rfl | exact Or.inr rfl)) (pss_one (ps_if (pt_cmpR op_eq (pe_ix ix_tup (pv 4) pe_int (fun _ _ => rfl)) pe_str (nomark _)) (pss_one (ps_set (i := 2) sc__law_height.nd rfl (Or.inl rfl) (pe_cB C_sum_of (hr.mono (by decide)) pass01 (pa_name (pv 2) (pa_call (pe_cB C_product_of (hr.mono (by decide)) pass01 (pa_sub (pe_ix ix_tup (pv 4) pe_int (fun _ _ => rfl)) (pa_name (pv 3) pa_nil))) pa_nil))))) (pss_one (ps_set (i := 3) sc__law_height.nd rfl (Or.inl rfl) (pe_cB C_less_by (hr.mono (by decide)) pass01 (pa_name (pv 3) (pa_call (pe_cB C_product_of (hr.mono (by decide)) pass01 (pa_sub (pe_ix ix_tup (pv 4) pe_int (fun _ _ => rfl)) (pa_name (pv 2) pa_nil))) pa_nil)))))))) (pss_one (ps_ret (pv 2))))), ?_⟩
  obtain ⟨l, xs, rfl, hl, hxs⟩ := hv.lst_of
  obtain ⟨ra, y0, u0, rfl, hra, hy0, hu0⟩ := DV.t2 (show DV K H rv (.tuple [frD r.1, frD r.2]) from hrv)
  have hxl : xs.length = ps.length := by have := hxs.len; rw [List.length_map] at this; exact this
  have rbi : ∀ i, RB (n + 3 * 8) (bend (ps.take i) r) := fun i => by
    refine Rb.mono (bend_rb (n := 0) (m := 7) (ps.take i) n r (fun p hp => (pl p (List.mem_of_mem_take hp)).2.1) rb) ?_
    have : (ps.take i).length ≤ 3 := by rw [List.length_take]; omega
    omega
  refine ⟨_, rfl, ra, _, rfl, hra, rfl, y0, _, rfl, u0, _, rfl, rfl, ?_⟩
  refine ⟨_, rfl, l, rfl, ⟨_, hl⟩, ?_⟩
  refine for_list (K := K) (a := l) (xs := xs) (fun i σ H' => ∃ yv uv c4, σ = [some (.ref l), some (.ref ra), some yv, some uv, c4] ∧ Same H H' ∧ DV K H' yv (frD (bend (ps.take i) r).1) ∧ DV K H' uv (frD (bend (ps.take i) r).2)) ⟨_, _, _, rfl, Same.refl _, by rw [List.take_zero]; exact hy0, by rw [List.take_zero]; exact hu0⟩ ?_ ?_ ?_
  · rintro i σ H' hi ⟨yv, uv, c4, rfl, s', _⟩
    exact hl.keep s'
  · rintro i x σ H' hi ⟨yv, uv, c4, rfl, s', hy, hu⟩
    obtain ⟨d, hd, hx⟩ := hxs.get hi
    rw [List.getElem?_map] at hd
    cases e : ps[i]? with
    | none => rw [e] at hd; cases hd
    | some p =>
    rw [e] at hd
    cases hd
    have hpl := pl p (List.mem_of_getElem? e)
    have rbp := rbi i
    rw [bend_take e]
    generalize bend (ps.take i) r = r' at hy hu rbp ⊢
    have sy := rbp.y.sm (by omega)
    have su := rbp.u.sm (by omega)
    cases p with
    | gap g =>
      obtain ⟨b, x0, x1, rfl, hb, g0, g1⟩ := DV.t2 (show DV K H' x (.tuple [.str "gap", frD g]) from hx.keep s')
      obtain rfl := DV.str_of g0
      have bg : Bd 7 g := hpl.2.1
      refine ⟨_, rfl, b, _, _, _, rfl, rfl, hb, atI0, rfl, _, rfl, iteT' (by decide) ?_⟩
      refine ⟨_, rfl, _, rfl, b, _, _, _, rfl, rfl, hb, rfl, _, rfl, _, _, .cons g1 (.cons hu .nil), ⟨_, _, rfl, bg.sm (by decide), su, rfl⟩, fun v1 H1 s1 hv1 => ?_⟩
      refine ⟨_, _, .cons (hy.keep s1) (.cons hv1 .nil), ⟨_, _, rfl, sy, (bg.mul rbp.u).sm (by omega), rfl⟩, fun v2 H2 s2 hv2 => ?_⟩
      exact ⟨_, _, _, rfl, s'.trans (s1.trans s2), hv2, hu.keep (s1.trans s2)⟩
    | glass g =>
      obtain ⟨b, x0, x1, rfl, hb, g0, g1⟩ := DV.t2 (show DV K H' x (.tuple [.str "glass", frD g]) from hx.keep s')
      obtain rfl := DV.str_of g0
      have bg : Bd 7 g := hpl.2.1
      refine ⟨_, rfl, b, _, _, _, rfl, rfl, hb, atI0, rfl, _, rfl, iteF' (by decide) ?_⟩
      refine ⟨_, rfl, _, rfl, b, _, _, _, rfl, rfl, hb, rfl, _, rfl, _, _, .cons g1 (.cons hy .nil), ⟨_, _, rfl, bg.sm (by decide), sy, rfl⟩, fun v1 H1 s1 hv1 => ?_⟩
      refine ⟨_, _, .cons (hu.keep s1) (.cons hv1 .nil), ⟨_, _, rfl, su, (bg.mul rbp.y).sm (by omega), rfl⟩, fun v2 H2 s2 hv2 => ?_⟩
      exact ⟨_, _, _, rfl, s'.trans (s1.trans s2), hy.keep (s1.trans s2), hv2⟩
    | stop a b => exact nomatch hpl.2.2
  · rintro σ H' ⟨yv, uv, c4, rfl, s', hy, hu⟩
    rw [hxl, List.take_length] at hy
    exact ⟨_, rfl, q _ _ s' hy⟩
end
end K48
namespace K48
open PySem L2 Lib Fr Op
seal PE PT PW PA PS PSs PG PGs PI PO PIfs
section
variable {P : Program} {w : World} {K : PySem.W.Frag} {mg : Str → Option Value} {base : Heap} {ad : Adr} {c : Bool}
theorem c__law_with (T : Txt K mg ad) : CalB P w K mg base true 1 "_law_with" ["_law_pieces_here", "_law_stops"] (spWith48 K) := by
  refine T.t__law_with.calN sc__law_with (fun _ _ _ _ _ _ => by2 fun _ _ => rfl) (fun vs H Q E h => ?_) (fun f cdv A outer s H vs Q E hr h => ?_)
  · obtain ⟨_, _, _, _, _, _, rfl, _⟩ := h; rfl
  obtain ⟨lp, ds, xs, ps, kvs, S, rfl, hlp, hxs, l3, hds, dc, q⟩ := h
  refine ⟨_, (pss_cons (ps_set (i := 2) sc__law_with.nd rfl (by first | exact Or.inl rfl | exact Or.inr rfl) (pe_lst pa_nil)) (pss_cons (ps_for PassesOwn.never rfl (pi_enum rfl T.enumerate (pa_name (pv 0) pa_nil)) (pg_tup (n := 2) rfl (pgs_cons (pg_name (i := 3) sc__law_with.nd rfl (by first | exact Or.inl rfl | exact Or.inr rfl)) (pgs_cons (pg_name (i := 4) sc__law_with.nd rfl (by first | exact Or.inl rfl | exact Or.inr rfl)) pgs_nil))) (pss_cons (ps_expr (pe_bm PySem.F.plainAttrs_list PySem.F.slot_list_append PySem.F.type_list_append mt_append (pv 2) (pa_name (pv 4) pa_nil))) (pss_one (ps_if (pt_cmp (pc_din hr.units1 (pv 3) (pv 1))) (pss_one (ps_expr (pe_bm PySem.F.plainAttrs_list PySem.F.slot_list_append PySem.F.type_list_append mt_append (pv 2) (pa_sub (pe_dget hr.units1 (pv 1) (pv 3) (fun _ _ => rfl)) pa_nil)))) pss_nil)))) (pss_one (ps_ret (pv 2))))), ?_⟩
  refine ⟨(by show 0 ≤ sizeLine; decide), fun l hl => ?_⟩
  have u0 := same_new hl (.lst [])
  have l0 : upd H l (.lst []) l = some (.lst []) := upd_same
  generalize upd H l (.lst []) = H1 at u0 l0 ⊢
  have hxl : xs.length = ps.length := by have := hxs.len; rw [List.length_map] at this; exact this
  have nlp : lp ≠ l := ne_of_none hlp hl
  have noP : ∀ p : Pc, noL (pcD p) = true := fun p => by cases p <;> rfl
  have more : ∀ {H' : Hp} {ys : List V} {qs : List Pc} {x : V} {p : Pc}, Same H H' → H' l = some (.lst ys) → DVs K H' ys (qs.map pcD) → DV K H' x (pcD p) → Same H (upd H' l (.lst (ys ++ [x]))) ∧ DVs K (upd H' l (.lst (ys ++ [x]))) (ys ++ [x]) ((qs ++ [p]).map pcD) := fun {H' ys qs x p} s' hy hd hx => by
    refine ⟨fun b o e => by rw [upd_ne (ne_of_none e hl)]; exact s' _ _ e, ?_⟩
    rw [List.map_append]
    exact dvs_keepT (sameT_upd hy _) (by rw [← List.map_append]; exact noLs_map noP _) (hd.append (.cons hx .nil))
  refine ⟨_, rfl, lp, rfl, ⟨_, SqL.of (u0 _ _ hlp)⟩, ?_⟩
  refine for_enum (K := K) (a := lp) (xs := xs) (fun i σ H' => ∃ ys c3 c4, σ = [some (.ref lp), some (.ref ds), some (.ref l), c3, c4] ∧ Same H H' ∧ H' l = some (.lst ys) ∧ DVs K H' ys ((withB S 0 (ps.take i)).map pcD)) ⟨[], _, _, rfl, u0, l0, .nil⟩ ?_ ?_ ?_
  · rintro i σ H' hi ⟨ys, c3, c4, rfl, s', _⟩
    exact SqL.of (s' _ _ hlp)
  · rintro i x σ H' p hi ⟨ys, c3, c4, rfl, s', hy, hd⟩ hp
    obtain ⟨d, hdd, hx⟩ := hxs.get hi
    obtain ⟨pc, hpc, rfl⟩ := get_map_pc hdd
    have il := lt_of_get hpc
    have up := same_new hp (.tup [.int i, x])
    have s1 := s'.trans up
    have hy1 := up _ _ hy
    have hd1 := hd.keep up
    have ht : (upd H' p (.tup [.int i, x])) p = some (.tup [.int i, x]) := upd_same
    generalize upd H' p (.tup [.int i, x]) = G1 at s1 hy1 hd1 ht ⊢
    have et : withB S 0 (ps.take (i + 1)) = withB S 0 (ps.take i) ++ withAt S i pc := by
      rw [List.take_add_one, hpc]
      show withB S 0 (ps.take i ++ [pc]) = _
      rw [with_snoc, Nat.zero_add, List.length_take, Nat.min_eq_left (by omega)]
    have yl : ys.length ≤ 6 := by
      have h1 := hd.len
      have h2 := with_len S (ps.take i) 0
      rw [List.length_map] at h1
      rw [List.length_take] at h2
      omega
    refine ⟨p, _, rfl, SqT.of ht, rfl, _, _, rfl, _, _, rfl, rfl, ?_⟩
    refine ⟨_, rfl, .inl ⟨rfl, _, SqL.of hy1⟩, _, rfl, l, ys, _, rfl, rfl, hy1, small1000 (by omega), ?_⟩
    obtain ⟨s2, d2⟩ := more s1 hy1 hd1 (hx.keep s1)
    have hy2 : upd G1 l (.lst (ys ++ [x])) l = some (.lst (ys ++ [x])) := upd_same
    generalize upd G1 l (.lst (ys ++ [x])) = G2 at s2 d2 hy2 ⊢
    have dk := (dc.keep s2) i
    have hds2 := s2 _ _ hds
    refine ⟨_, rfl, _, rfl, ds, _, rfl, DGet.k (k := .inl (i : Int)) hds2, _, rfl, ?_⟩
    cases e : S i with
    | none =>
      rw [e] at dk
      have dk : valV kvs (.inl (i : Int)) = none := dk
      rw [dk]
      refine iteF ⟨ys ++ [x], _, _, rfl, s2, hy2, ?_⟩
      rw [et]
      unfold withAt
      rw [e]
      exact d2
    | some qq =>
      rw [e] at dk
      obtain ⟨v, hv, hvd⟩ := dk
      rw [hv]
      refine iteT ?_
      refine ⟨_, rfl, .inl ⟨rfl, _, SqL.of hy2⟩, _, rfl, _, rfl, ds, v, rfl, ?_, l, _, _, rfl, rfl, hy2, small1000 (by rw [List.length_append, List.length_singleton]; omega), ?_⟩
      · have g := DGet.k (k := .inl (i : Int)) hds2
        rw [hv] at g
        exact g
      obtain ⟨s3, d3⟩ := more s2 hy2 d2 hvd
      refine ⟨_, _, _, rfl, s3, upd_same, ?_⟩
      rw [et]
      unfold withAt
      rw [e]
      show DVs K _ _ ((withB S 0 (ps.take i) ++ (pc :: [Pc.stop qq.1 qq.2])).map pcD)
      rw [show withB S 0 (ps.take i) ++ (pc :: [Pc.stop qq.1 qq.2]) = withB S 0 (ps.take i) ++ [pc] ++ [Pc.stop qq.1 qq.2] by simp]
      exact d3
  · rintro σ H' ⟨ys, c3, c4, rfl, s', hy, hd⟩
    rw [hxl, List.take_length] at hd
    exact ⟨_, rfl, q l H' ys s' hl hy hd⟩
end
end K48
namespace K48
open PySem L2 Lib Fr Op
seal PE PT PW PA PS PSs PG PGs PI PO PIfs
section
variable {P : Program} {w : World} {K : PySem.W.Frag} {mg : Str → Option Value} {base : Heap} {ad : Adr} {c : Bool}
theorem op_notInDX {X : Cx} {A : Around} {K : PySem.W.Frag} (hu : A.units + 64 < cLine) (hA : X.A = A := by rfl) (hK : X.K = K := by rfl) : OpR X (compareOp .NotIn) (rInD K true) := by
  subst hK
  exact op_notInD (by rw [hA]; exact hu)
theorem c_size_of (T : Txt K mg ad) : CalB P w K mg base true 4 "size_of" ["corners"] (PR K RSize2) := by
  have C_sum_of := c_sum_of (P := P) (w := w) (base := base) T
  have C_less_by := c_less_by (P := P) (w := w) (base := base) T
  have C_product_of := c_product_of (P := P) (w := w) (base := base) T
  have C_quotient_of := c_quotient_of (P := P) (w := w) (base := base) T
  refine T.t_size_of.calN sc_size_of (fun _ _ _ _ _ _ => by1 fun _ => rfl) (fun vs H Q E h => ?_) (fun f cdv A outer s H vs Q E hr h => ?_)
  · obtain ⟨_, _, dv, ⟨_, _, rfl, _⟩, _⟩ := h; exact dv.len
  obtain ⟨_, _, dv, ⟨cs, n, rfl, bc, hcs, rfl⟩, k⟩ := h
  obtain ⟨_, rfl, hx⟩ := dv.one
  obtain ⟨a, xs, rfl, ha, hxs⟩ := DV.lst_of hx
  have hl : xs.length = cs.length := by have := hxs.len; rw [List.length_map] at this; exact this
  have bt : ∀ i, i ≤ cs.length → Bd 3900 (twiceR cs i) := fun i hi => (twice_bd bc i hi).mono (by
    have : n * (i + 1) ≤ n * (cs.length + 1) := Nat.mul_le_mul (Nat.le_refl _) (by omega)
    omega)
  have n39 : ∀ c ∈ cs, n ≤ 1950 := fun c hc => by
    have h1 : 1 ≤ cs.length := List.length_pos_of_mem hc
    have h2 : n * 2 ≤ n * (cs.length + 1) := Nat.mul_le_mul (Nat.le_refl _) (by omega)
    omega
  refine ⟨_, (pss_cons (ps_set (i := 1) sc_size_of.nd rfl (Or.inl rfl) (pe_glob (v := .ref ad.NOUGHT) rfl T.ex.m_NOUGHT rfl)) (pss_cons (ps_for PassesOwn.never rfl (pi_enum rfl T.enumerate (pa_name (pv 0) pa_nil)) (pg_tup (n := 2) rfl (pgs_cons (pg_name (i := 2) sc_size_of.nd rfl (by first | exact Or.inl rfl | exact Or.inr rfl)) (pgs_cons (pg_name (i := 3) sc_size_of.nd rfl (by first | exact Or.inl rfl | exact Or.inr rfl)) pgs_nil))) (pss_cons (ps_set (i := 4) sc_size_of.nd rfl (Or.inl rfl) (pe_ix ix_list (pv 0) (pe_op op_sub (pv 2) pe_int) (fun _ _ => rfl))) (pss_one (ps_set (i := 1) sc_size_of.nd rfl (Or.inl rfl) (pe_cB C_sum_of (hr.mono (by decide)) pass01 (pa_name (pv 1) (pa_call (pe_cB C_less_by (hr.mono (by decide)) pass01 (pa_call (pe_cB C_product_of (hr.mono (by decide)) pass01 (pa_sub (pe_ix ix_tup (pv 4) pe_int (fun _ _ => rfl)) (pa_sub (pe_ix ix_tup (pv 3) pe_int (fun _ _ => rfl)) pa_nil))) (pa_call (pe_cB C_product_of (hr.mono (by decide)) pass01 (pa_sub (pe_ix ix_tup (pv 4) pe_int (fun _ _ => rfl)) (pa_sub (pe_ix ix_tup (pv 3) pe_int (fun _ _ => rfl)) pa_nil))) pa_nil))) pa_nil))))))) (pss_one (ps_ret (pe_cB C_quotient_of (hr.mono (by decide)) pass01 (pa_name (pv 1) (pa_tuple (pe_tup (pa_const pe_int (pa_const pe_int pa_nil))) pa_nil))))))), ?_⟩
  refine ⟨_, rfl, a, rfl, ⟨_, ha⟩, ?_⟩
  refine for_enum (K := K) (a := a) (xs := xs) (fun i σ H' => ∃ v1 c2 c3 c4, σ = [some (.ref a), some v1, c2, c3, c4] ∧ Same H H' ∧ DV K H' v1 (frD (twiceR cs i))) ⟨_, _, _, _, rfl, Same.refl _, .tup (T.ex.s_NOUGHT _) (.cons (.int _) (.cons (.int _) .nil))⟩ ?_ ?_ ?_
  · rintro i σ H' hi ⟨v1, c2, c3, c4, rfl, s1, _⟩
    exact ha.keep s1
  · rintro i x σ H' p hi ⟨vt, c2, c3, c4, rfl, s1, hvt⟩ hp
    have hlt' := lt_of_get hi
    have u2 := same_new hp (.tup [.int i, x])
    have s2 := s1.trans u2
    obtain ⟨v0, hv0, hd0⟩ := dvs_prev hxs (i := i) (by omega)
    obtain ⟨v1, hv1, hd1⟩ := dvs_ray hxs (i := i) (by omega)
    cases hi.symm.trans hv1
    refine ⟨p, _, rfl, SqT.of upd_same, rfl, _, _, rfl, _, _, rfl, rfl, ?_⟩
    have m1 := bc _ (prevR_mem (cs := cs) (i := i) (by omega))
    have m2 := bc _ (atR_mem (cs := cs) (i := i) (by omega))
    have n4 := n39 _ (atR_mem (cs := cs) (i := i) (by omega))
    refine ⟨_, rfl, _, rfl, _, _, rfl, rfl, a, _, _, v0, rfl, rfl, ha.keep s2, hv0, ?_⟩
    have hd0 := hd0.keep s2
    have hd1 := hd1.keep s2
    have hvt := hvt.keep u2
    generalize upd H' p (.tup [.int i, x]) = H2 at s2 hd0 hd1 hvt ⊢
    obtain ⟨b0, x1, x2, rfl, hb0, hx1, hx2⟩ := DV.t2 hd0
    obtain ⟨b1, y1, y2, rfl, hb1, hy1, hy2⟩ := DV.t2 hd1
    refine ⟨_, rfl, _, rfl, b0, _, _, _, rfl, rfl, hb0, rfl, _, rfl, b1, _, _, _, rfl, rfl, hb1, rfl, _, _, .cons hx1 (.cons hy2 .nil), ⟨_, _, rfl, m1.y.sm (by omega), m2.u.sm (by omega), rfl⟩, fun w1 H3 s3 hw1 => ?_⟩
    refine ⟨_, rfl, b0, _, _, _, rfl, rfl, hb0.keep s3, rfl, _, rfl, b1, _, _, _, rfl, rfl, hb1.keep s3, rfl, _, _, .cons (hx2.keep s3) (.cons (hy1.keep s3) .nil), ⟨_, _, rfl, m1.u.sm (by omega), m2.y.sm (by omega), rfl⟩, fun w2 H4 s4 hw2 => ?_⟩
    have e1 := m1.y.mul m2.u
    have e2 := m1.u.mul m2.y
    refine ⟨_, _, .cons (hw1.keep s4) (.cons hw2 .nil), ⟨_, _, rfl, e1.sm (by omega), e2.sm (by omega), rfl⟩, fun w3 H5 s5 hw3 => ?_⟩
    have e3 : Bd 3999 (crossR (prevR cs i) (atR cs i)) := cross_bd m1 m2 n4
    have s25 := s3.trans (s4.trans s5)
    refine ⟨_, _, .cons (hvt.keep s25) (.cons hw3 .nil), ⟨_, _, rfl, (bt i (by omega)).sm (by decide), e3.sm (by decide), rfl⟩, fun w4 H6 s6 hw4 => ?_⟩
    exact ⟨_, _, _, _, rfl, s2.trans (s25.trans s6), hw4⟩
  · rintro σ H' ⟨vt, c2, c3, c4, rfl, s1, hvt⟩
    rw [hl] at hvt
    refine ⟨_, rfl, (by show 2 ≤ sizeLine; decide), fun p hp => ?_⟩
    have u2 := same_new hp (.tup [.int 2, .int 1])
    refine ⟨_, _, .cons (hvt.keep u2) (.cons (.tup (SqT.of upd_same) (.cons (.int _) (.cons (.int _) .nil))) .nil), ⟨_, 2, rfl, (bt _ (Nat.le_refl _)).sm (by decide), ⟨by decide +kernel, by decide +kernel⟩, by decide +kernel, rfl⟩, fun v H3 s3 hv => ?_⟩
    exact k _ _ (s1.trans (u2.trans s3)) hv
end
end K48
namespace K48
open PySem L2 Lib Fr Op
seal PE PT PW PA PS PSs PG PGs PI PO PIfs
section
variable {P : Program} {w : World} {K : PySem.W.Frag} {mg : Str → Option Value} {base : Heap} {ad : Adr} {c : Bool}
theorem c__law_shut (T : Txt K mg ad) : CalB P w K mg base true 8 "_law_shut" ["_law_pieces_here", "_law_stops", "_law_box_here", "_law_ray", "_law_corners", "_law_k"] (spShut48 K) := by
  have C__law_height := c__law_height (P := P) (w := w) (base := base) T
  have C__law_with := c__law_with (P := P) (w := w) (base := base) T
  have C_is_within := c_is_within (P := P) (w := w) (base := base) T
  have C_size_of := c_size_of (P := P) (w := w) (base := base) T
  have C_is_less := c_is_less (P := P) (w := w) (base := base) T
  have C_sum_of := c_sum_of (P := P) (w := w) (base := base) T
  have C_field_of := l_field_of (P := P) (w := w) (base := base) T
  refine T.t__law_shut.calN sc__law_shut (fun _ _ _ _ _ _ => by6 fun _ _ _ _ _ _ => rfl) (fun vs H Q E h => ?_) (fun f cdv A outer s H vs Q E hr h => ?_)
  · obtain ⟨_, _, _, _, _, _, _, _, _, _, _, _, _, rfl, _⟩ := h; rfl
  obtain ⟨lp, ds, lc, bv, rv, k, xs, rs, ps, x, r, kvs, S, rfl, hlp, hxs, hds, kl, dc, hbv, hrv, hlc, hrs, p48, so, ins, hk, hSk, q⟩ := h
  have ek : ∀ zs : List V, cutV zs none (some ((k : Int) + 1)) = zs.take (k + 1) := fun zs => by rw [show (k : Int) + 1 = ((k + 1 : Nat) : Int) by omega, cut_take]
  have plk : ∀ p ∈ ps.take (k + 1), Pl48 p := fun p hp => p48.pl p (List.mem_of_mem_take hp)
  have l3k : (ps.take (k + 1)).length ≤ 3 := by rw [List.length_take]; have := p48.l3; omega
  have n16 := p48.n10 (by decide) so
  have fo0 := p48.fo (by decide) so
  have in0 := p48.in (by decide) so ins
  have cs_ne : fieldR (lims (withB S 0 ps)) x ≠ [] := fun e => by rw [e] at in0; exact in0
  have rb0 := fo0.poly.rb
  have empt := fun (q : Rat × Rat) (T : Rat) s' hT lt => p48.empty so (q := q) (T := T) hk hSk s' hT lt
  refine ⟨_, (pss_cons (ps_set (i := 6) sc__law_shut.nd rfl (Or.inl rfl) (pe_cB C__law_height (hr.mono (by decide)) pass01 (pa_sub (pe_slice sl_list (pv 0) po_none (po_some (pe_op op_add (pv 5) pe_int))) (pa_name (pv 3) pa_nil)))) (pss_cons (ps_set (i := 7) sc__law_shut.nd rfl (Or.inl rfl) (pe_callTy call_dictC rfl T.dict bt_dict (pa_name (pv 1) pa_nil))) (pss_cons (ps_dput hr.units1 (pv 7) (pv 5) (pe_tup (pa_const pe_str (pa_name (pv 6) (pa_name (pv 6) pa_nil)))) rfl) (pss_cons (ps_set (i := 8) sc__law_shut.nd rfl (by first | exact Or.inl rfl | exact Or.inr rfl) (pe_cB C_field_of (hr.mono (by decide)) pass01 (pa_call (pe_cB C__law_with (hr.mono (by decide)) pass01 (pa_name (pv 0) (pa_name (pv 7) pa_nil))) (pa_name (pv 2) pa_nil)))) (pss_cons (ps_if (PW.pt (pw_or (pt_not (pt_val (pe_cB C_is_within (hr.mono (by decide)) pass01 (pa_name (pv 8) (pa_name (pv 3) pa_nil))))) (pw_or1 (pt_cmpR (op_neD hr.units) (pe_cB C_size_of (hr.mono (by decide)) pass01 (pa_name (pv 8) pa_nil)) (pe_tup (pa_const pe_int (pa_const pe_int pa_nil))) (nomark _))))) (pss_one (ps_ret pe_bl)) pss_nil) (pss_cons (ps_compX (i := 9) sc__law_shut.nd rfl (by first | exact Or.inl rfl | exact Or.inr rfl) ["_law_corner", "_law_pieces_here", "_law_k"] [none, some 0, some 5] rfl (pi_list (pv 4)) (fun _ _ _ _ _ _ => (pg_name (i := 0) (show List.Nodup [("_law_corner" : Str), ("_law_pieces_here" : Str), ("_law_k" : Str)] by decide) rfl (by first | exact Or.inl rfl | exact Or.inr rfl))) (fun _ _ _ _ _ _ => pifs_nil) (fun _ _ _ _ _ _ => (pe_cB C__law_height (hr.mono (by decide)) pass01 (pa_sub (pe_slice (sl_listK (K := K)) (pv 1) po_none (po_some (pe_op op_add (pv 2) pe_int))) (pa_name (pv 0) pa_nil)))) (cap_def (hcell := by decide) (hf := (show ∀ y : Str × NameKind, y ∈ _ → y.2 = NameKind.free → (defScope s__law_shut).names.lookup y.1 = some NameKind.cell by decide))) (by decide) rfl (by decide) rfl (fun i j h => by
      rcases i with _ | _ | _ | i
      · simp at h
      · simp at h; subst h; exact ⟨_, rfl, rfl, rfl, rfl⟩
      · simp at h; subst h; exact ⟨_, rfl, rfl, rfl, rfl⟩
      · simp at h)) (pss_cons (ps_set (i := 10) sc__law_shut.nd rfl (Or.inl rfl) (pe_ix ix_list (pv 9) pe_int (fun _ _ => rfl))) (pss_cons (ps_for PassesOwn.never rfl (pi_list (pe_slice sl_list (pv 9) (po_some pe_int) po_none)) (pg_name (i := 11) sc__law_shut.nd rfl (by first | exact Or.inl rfl | exact Or.inr rfl)) (pss_one (ps_if (pt_val (pe_cB C_is_less (hr.mono (by decide)) pass01 (pa_name (pv 10) (pa_name (pv 11) pa_nil)))) (pss_one (ps_set (i := 10) sc__law_shut.nd rfl (Or.inl rfl) (pv 11))) pss_nil))) (pss_cons (ps_dput hr.units1 (pv 7) (pv 5) (pe_tup (pa_const pe_str (pa_call (pe_cB C_sum_of (hr.mono (by decide)) pass01 (pa_name (pv 10) (pa_tuple (pe_tup (pa_const pe_int (pa_const pe_int pa_nil))) pa_nil))) (pa_call (pe_cB C_sum_of (hr.mono (by decide)) pass01 (pa_name (pv 10) (pa_tuple (pe_tup (pa_const pe_int (pa_const pe_int pa_nil))) pa_nil))) pa_nil)))) rfl) (pss_one (ps_ret (pe_cmpR (op_eqD hr.units) (pe_cB C_field_of (hr.mono (by decide)) pass01 (pa_call (pe_cB C__law_with (hr.mono (by decide)) pass01 (pa_name (pv 0) (pa_name (pv 7) pa_nil))) (pa_name (pv 2) pa_nil))) (pe_lst pa_nil) (nomark _))))))))))))), ?_⟩
  refine ⟨_, rfl, _, rfl, _, _, rfl, rfl, _, rfl, lp, _, rfl, SqL.of hlp, fun p0 hp0 => ?_⟩
  dsimp only
  rw [ek]
  have u0 := same_new hp0 (.lst (xs.take (k + 1)))
  have d0 : DV K (upd H p0 (.lst (xs.take (k + 1)))) (.ref p0) (benchD (ps.take (k + 1))) := .lst (SqL.of upd_same) (by rw [List.map_take]; exact (DVs.take (k + 1) hxs).keep u0)
  generalize upd H p0 (.lst (xs.take (k + 1))) = H0 at u0 d0 ⊢
  refine ⟨_, rfl, .ref p0, rv, ps.take (k + 1), r, 36, rfl, d0, hrv.keep u0, plk, l3k, p48.rb, by decide, fun hv H1 s1 hhv => ?_⟩
  have t1 := u0.trans s1
  -- the flat stop
  refine ⟨_, rfl, ds, kvs, rfl, t1 _ _ hds, fun p2 hp2 => ?_⟩
  have u2 := same_new hp2 (.dK kvs)
  have hd2 : upd H1 p2 (.dK kvs) p2 = some (.dK kvs) := upd_same
  generalize upd H1 p2 (.dK kvs) = H2 at u2 hd2 ⊢
  refine ⟨_, rfl, _, rfl, (by show 3 ≤ sizeLine; decide), fun p3 hp3 => ?_⟩
  have u3 := same_new hp3 (.tup [.str "stop", hv, hv])
  have d3 : DV K (upd H2 p3 (.tup [.str "stop", hv, hv])) (.ref p3) (pcD (.stop (bend (ps.take (k + 1)) r).1 (bend (ps.take (k + 1)) r).1)) := .tup (SqT.of upd_same) (.cons (.str _) (.cons (hhv.keep (u2.trans u3)) (.cons (hhv.keep (u2.trans u3)) .nil)))
  generalize upd H2 p3 (.tup [.str "stop", hv, hv]) = H3 at u3 d3 ⊢
  have hd3 := u3 _ _ hd2
  refine ⟨_, rfl, _, rfl, p2, _, rfl, DPut.k (k := .inl (k : Int)) hd3 (small1000 (by omega)), ?_⟩
  have st := p48.round k (o1 := 0) (o2 := 0) ⟨by decide +kernel, by decide +kernel⟩ ⟨by decide +kernel, by decide +kernel⟩
  have ehr : ((bend (ps.take (k + 1)) r).1 - 0, (bend (ps.take (k + 1)) r).1 + 0) = ((bend (ps.take (k + 1)) r).1, (bend (ps.take (k + 1)) r).1) := by rw [Rat.add_zero, Rat.sub_eq_add_neg, Rat.neg_zero, Rat.add_zero]
  rw [ehr] at st
  have so1 := so.set st (Rat.le_refl)
  have in1 := ins.set (k := k) (q := ((bend (ps.take (k + 1)) r).1, (bend (ps.take (k + 1)) r).1)) Rat.le_refl Rat.le_refl
  have dc4 := ((dc.keep (t1.trans (u2.trans u3))).put (k := k) (q := ((bend (ps.take (k + 1)) r).1, (bend (ps.take (k + 1)) r).1)) d3).keepT ((sd_upd (o := .dK (putK kvs (.inl (k : Int)) (.ref p3)))).tD hd3)
  have s4 : Same H1 (upd H3 p2 (.dK (putK kvs (.inl (k : Int)) (.ref p3)))) := same_upd2 (u2.trans u3) hp2
  have hd4 : upd H3 p2 (.dK (putK kvs (.inl (k : Int)) (.ref p3))) p2 = some (.dK (putK kvs (.inl (k : Int)) (.ref p3))) := upd_same
  have kl4 : (putK kvs (.inl (k : Int)) (.ref p3)).length ≤ 4 := Nat.le_trans (length_putK _ _ _) (by omega)
  have fl1 := p48.flat so hk hSk so1
  have wi1 := p48.in (by decide) so1 in1
  have fo1 := p48.fo (by decide) so1
  have g1 := p48.good (by decide) so1
  have l6 := p48.len6 (S := setS S k ((bend (ps.take (k + 1)) r).1, (bend (ps.take (k + 1)) r).1))
  have n1 := p48.n10 (by decide) so1
  generalize hk4 : putK kvs (.inl (k : Int)) (.ref p3) = kvs4 at dc4 s4 hd4 kl4 ⊢
  dsimp only
  generalize upd H3 p2 (.dK kvs4) = H4 at dc4 s4 hd4 ⊢
  have t4 := t1.trans s4
  refine ⟨_, rfl, _, rfl, lp, p2, xs, ps, _, _, rfl, t4 _ _ hlp, hxs.keep t4, p48.l3, hd4, dc4, fun l5 H5 ys s5 n5 hl5 hys => ?_⟩
  have t5 := t4.trans s5
  refine ⟨_, rfl, .ref l5, bv, _, x, 73, 73, 26, 73, rfl, .lst (SqL.of hl5) hys, hbv.keep t5, g1, by omega, fo1, by decide, fun lf rs1 H6 s6 nf hlf hrs1 => ?_⟩
  have t6 := t5.trans s6
  have hf : DV K H6 (.ref lf) (raysD (fieldR (lims (withB (setS S k ((bend (ps.take (k + 1)) r).1, (bend (ps.take (k + 1)) r).1)) 0 ps)) x)) := .lst (SqL.of hlf) hrs1
  have rn1 := fo1.poly.rn
  have rb1 := fo1.poly.rb
  have ew := (within_in fo1.poly.es (rotL_lf _) r).mpr wi1
  refine ⟨_, rfl, _, rfl, _, _, .cons hf (.cons (hrv.keep t6) .nil), ⟨_, r, 147, 36, rfl, rn1, ⟨p48.rb.y, p48.rb.u⟩, by decide, by omega, rfl⟩, fun fv H7 s7 hfv => ?_⟩
  obtain rfl := hfv.bl_of
  have ew' : withinR (fieldR (lims (withB (setS S k ((bend (ps.take (k + 1)) r).1, (bend (ps.take (k + 1)) r).1)) 0 ps)) x) r = true := ew
  rw [ew']
  refine ⟨_, rfl, iteF ?_⟩
  refine ⟨_, rfl, _, _, .cons (hf.keep s7) .nil, ⟨_, 147, rfl, rb1, ?_, rfl⟩, fun v8 H8 s8 hv8 => ?_⟩
  · have : 147 * ((fieldR (lims (withB (setS S k ((bend (ps.take (k + 1)) r).1, (bend (ps.take (k + 1)) r).1)) 0 ps)) x).length + 1) ≤ 147 * 17 := Nat.mul_le_mul (Nat.le_refl _) (by omega)
    omega
  rw [fl1] at hv8
  refine ⟨(by show 2 ≤ sizeLine; decide), fun p9 hp9 => ?_⟩
  have u9 := same_new hp9 (.tup [.int 0, .int 1])
  refine ne_same (hv8.keep u9) fr01 (flat_fr _) ⟨_, rfl, iteF ?_⟩
  have t9 := t6.trans (s7.trans (s8.trans u9))
  have s49 := s5.trans (s6.trans (s7.trans (s8.trans u9)))
  generalize upd H8 p9 (.tup [.int 0, .int 1]) = H9 at t9 s49 ⊢
  have hd9 := s49 _ _ hd4
  have dc9 := dc4.keep s49
  clear u9 fl1 wi1 g1 l6 n1 rn1 rb1 ew ew' hf hrs1 hlf s7 s8 s6 s5 hys hl5
  -- the heights
  have hlc9 := t9 _ _ hlc
  have hrs9 := hrs.keep t9
  have hrl : rs.length = (fieldR (lims (withB S 0 ps)) x).length := by have := hrs.len; rw [List.length_map] at this; exact this
  refine ⟨_, rfl, lc, rfl, ⟨_, SqL.of hlc9⟩, ?_⟩
  refine comp_list0 (K := K) (a := lc) (xs := rs) (fun i σ ys H' => ∃ c0, σ = [c0, some (.ref lp), some (.int (k : Int))] ∧ Same H9 H' ∧ DVs K H' ys (((fieldR (lims (withB S 0 ps)) x).take i).map fun c => frD (bend (ps.take (k + 1)) c).1)) ⟨_, rfl, Same.refl _, .nil⟩ ?_ ?_ ?_
  · rintro i σ ys H' hi ⟨c0, rfl, s', hys⟩
    refine ⟨?_, SqL.of (s' _ _ hlc9)⟩
    have := hys.len
    rw [List.length_map, List.length_take] at this
    exact Nat.le_of_lt (small1000 (by omega))
  · rintro i y σ ys H' hi ⟨c0, rfl, s', hys⟩
    obtain ⟨d, hd, hy⟩ := hrs9.get hi
    obtain ⟨cr, hcr, rfl⟩ := get_map_ray hd
    have hm := List.mem_of_getElem? hcr
    have t' := t9.trans s'
    refine ⟨_, rfl, _, rfl, _, _, rfl, rfl, _, rfl, lp, _, rfl, SqL.of (t' _ _ hlp), fun pa hpa => ?_⟩
    dsimp only
    rw [ek]
    have ua := same_new hpa (.lst (xs.take (k + 1)))
    have da : DV K (upd H' pa (.lst (xs.take (k + 1)))) (.ref pa) (benchD (ps.take (k + 1))) := .lst (SqL.of upd_same) (by rw [List.map_take]; exact (DVs.take (k + 1) hxs).keep (t'.trans ua))
    generalize upd H' pa (.lst (xs.take (k + 1))) = Ha at ua da ⊢
    refine ⟨_, rfl, .ref pa, y, ps.take (k + 1), cr, 147, rfl, da, hy.keep (s'.trans ua), plk, l3k, rb0 _ hm, by decide, fun gv Hb sb hgv => ?_⟩
    refine nx (lt_of_get hi) ⟨_, rfl, s'.trans (ua.trans sb), ?_⟩
    have et : (fieldR (lims (withB S 0 ps)) x).take (i + 1) = (fieldR (lims (withB S 0 ps)) x).take i ++ [cr] := by rw [List.take_add_one, hcr]; rfl
    rw [et, List.map_append]
    exact (hys.keep (ua.trans sb)).append (.cons hgv .nil)
  rintro σ ys Hc pc ⟨c0, rfl, sc, hys⟩ hpc
  rw [hrl, List.take_length] at hys
  have uc := same_new hpc (.lst ys)
  have hpc1 : upd Hc pc (.lst ys) pc = some (.lst ys) := upd_same
  have hys := hys.keep uc
  have s9c := sc.trans uc
  generalize upd Hc pc (.lst ys) = Hd at uc hpc1 hys s9c ⊢
  generalize hcs : fieldR (lims (withB S 0 ps)) x = cs at hys cs_ne hrl n16 rb0 empt
  have hyl : ys.length = cs.length := by have := hys.len; rw [List.length_map] at this; exact this
  cases cs with
  | nil => exact absurd rfl cs_ne
  | cons c1 cs' =>
  obtain ⟨y1, ys', rfl, hy1, hys'⟩ : ∃ y1 ys', ys = y1 :: ys' ∧ DV K Hd y1 (frD (bend (ps.take (k + 1)) c1).1) ∧ DVs K Hd ys' (cs'.map fun c => frD (bend (ps.take (k + 1)) c).1) := by
    cases hys with
    | cons a b => exact ⟨_, _, rfl, a, b⟩
  refine ⟨_, rfl, pc, _, _, _, rfl, rfl, SqL.of hpc1, atI0, ?_⟩
  refine ⟨_, rfl, _, rfl, pc, _, rfl, SqL.of hpc1, fun p10 hp10 => ⟨p10, rfl, ⟨_, SqL.of upd_same⟩, ?_⟩⟩
  have e10 : cutV (y1 :: ys') (some 1) none = ys' := by
    have := cut_drop (y1 :: ys') 1
    exact this
  have u10 := same_new hp10 (.lst (cutV (y1 :: ys') (some 1) none))
  have h10 : upd Hd p10 (.lst (cutV (y1 :: ys') (some 1) none)) p10 = some (.lst (cutV (y1 :: ys') (some 1) none)) := upd_same
  generalize upd Hd p10 (.lst (cutV (y1 :: ys') (some 1) none)) = Hg at u10 h10 ⊢
  rw [e10] at h10
  refine for_list (K := K) (a := p10) (xs := ys') (fun i σ H' => ∃ tv c11 c, σ = [some (.ref lp), some (.ref ds), some bv, some rv, some (.ref lc), some (.int (k : Int)), some hv, some (.ref p2), some (.ref lf), some (.ref pc), some tv, c11] ∧ Same Hg H' ∧ c ∈ c1 :: cs' ∧ DV K H' tv (frD (bend (ps.take (k + 1)) c).1) ∧ ∀ c' ∈ c1 :: cs'.take i, (bend (ps.take (k + 1)) c').1 ≤ (bend (ps.take (k + 1)) c).1) ⟨_, _, c1, rfl, Same.refl _, List.mem_cons_self, hy1.keep u10, fun c' hc' => by
    rw [List.take_zero] at hc'
    rw [List.mem_singleton.mp hc']
    exact Rat.le_refl⟩ ?_ ?_ ?_
  · rintro i σ H' hi ⟨tv, c11, c, rfl, s', _⟩
    exact SqL.of (s' _ _ h10)
  · rintro i y σ H' hi ⟨tv, c11, c, rfl, s', hc, htv, hmx⟩
    obtain ⟨d, hd, hy⟩ := hys'.get hi
    rw [List.getElem?_map] at hd
    cases e : cs'[i]? with
    | none => rw [e] at hd; cases hd
    | some cr =>
    rw [e] at hd
    cases hd
    have hm : cr ∈ c1 :: cs' := List.mem_cons_of_mem _ (List.mem_of_getElem? e)
    have hbd : ∀ c ∈ c1 :: cs', Sm (bend (ps.take (k + 1)) c).1 := fun c hc => by
      have h1 := bend_rb (n := 0) (m := 7) (ps.take (k + 1)) 147 c (fun p hp => (plk p hp).2.1) (rb0 c hc)
      have h2 : (ps.take (k + 1)).length * (7 + 1) ≤ 3 * 8 := Nat.mul_le_mul l3k (Nat.le_refl _)
      exact h1.y.sm (by omega)
    have et : cs'.take (i + 1) = cs'.take i ++ [cr] := by rw [List.take_add_one, e]; rfl
    refine ⟨_, rfl, _, rfl, _, _, .cons htv (.cons (hy.keep (u10.trans s')) .nil), ⟨_, _, rfl, hbd c hc, hbd cr hm, rfl⟩, fun bv' H'' s'' hbv' => ?_⟩
    obtain rfl := hbv'.bl_of
    refine ⟨_, rfl, ?_⟩
    refine ite2 (fun lt => ?_) (fun nl => ?_)
    · have lt := of_decide_eq_true lt
      refine ⟨_, rfl, _, _, cr, rfl, s'.trans s'', hm, hy.keep (u10.trans (s'.trans s'')), fun c' hc' => ?_⟩
      rw [et, ← List.cons_append] at hc'
      rcases List.mem_append.mp hc' with h | h
      · exact Rat.le_trans (hmx c' h) (Rat.le_of_lt lt)
      · rw [List.mem_singleton.mp h]; exact Rat.le_refl
    · have nl : ¬ (bend (ps.take (k + 1)) c).1 < (bend (ps.take (k + 1)) cr).1 := fun h => nl (decide_eq_true h)
      refine ⟨_, _, c, rfl, s'.trans s'', hc, htv.keep s'', fun c' hc' => ?_⟩
      rw [et, ← List.cons_append] at hc'
      rcases List.mem_append.mp hc' with h | h
      · exact hmx c' h
      · rw [List.mem_singleton.mp h]; exact Rat.not_lt.mp nl
  rintro σ H' ⟨tv, c11, c, rfl, s', hc, htv, hmx⟩
  have hyl' : ys'.length = cs'.length := by have := hys'.len; rw [List.length_map] at this; exact this
  rw [hyl', List.take_length] at hmx
  have t10 := s9c.trans (u10.trans s')
  have hsb := rb0 c hc
  have bt : Bd 171 (bend (ps.take (k + 1)) c).1 := by
    have h1 := bend_rb (n := 0) (m := 7) (ps.take (k + 1)) 147 c (fun p hp => (plk p hp).2.1) hsb
    have h2 : (ps.take (k + 1)).length * (7 + 1) ≤ 3 * 8 := Nat.mul_le_mul l3k (Nat.le_refl _)
    exact h1.y.mono (by omega)
  have b19 : Bd 7 (1 / 9 : Rat) := ⟨by decide +kernel, by decide +kernel⟩
  have b5 : Bd 7 (5 : Rat) := ⟨by decide +kernel, by decide +kernel⟩
  have st2 := p48.beyond k hsb b19 b5
  have lt2 : (bend (ps.take (k + 1)) c).1 < (bend (ps.take (k + 1)) c).1 + 1 / 9 := by grind
  have so2 := (so.mono (show 73 ≤ 184 by decide)).set st2 (by show (bend (ps.take (k + 1)) c).1 + 1 / 9 ≤ (bend (ps.take (k + 1)) c).1 + 5; grind)
  have em2 := empt _ _ so2 hmx lt2
  have fo2 := p48.fo (by decide) so2
  have g2 := p48.good (by decide) so2
  have l62 := p48.len6 (S := setS S k ((bend (ps.take (k + 1)) c).1 + 1 / 9, (bend (ps.take (k + 1)) c).1 + 5))
  generalize (bend (ps.take (k + 1)) c).1 = top at htv bt so2 em2 fo2 g2 l62
  refine ⟨_, rfl, (by show 2 ≤ sizeLine; decide), fun pa hpa => ?_⟩
  have ua := same_new hpa (.tup [.int 1, .int 9])
  have da : DV K (upd H' pa (.tup [.int 1, .int 9])) (.ref pa) (frD (1 / 9)) := by rw [fr_19]; exact .tup (SqT.of upd_same) (.cons (.int _) (.cons (.int _) .nil))
  generalize upd H' pa (.tup [.int 1, .int 9]) = Ha at ua da ⊢
  refine ⟨_, _, .cons (htv.keep ua) (.cons da .nil), ⟨_, _, rfl, bt.sm (by decide), b19.sm (by decide), rfl⟩, fun lo Hb sb hlo => ?_⟩
  refine ⟨_, rfl, (by show 2 ≤ sizeLine; decide), fun pb hpb => ?_⟩
  have ub := same_new hpb (.tup [.int 5, .int 1])
  have db : DV K (upd Hb pb (.tup [.int 5, .int 1])) (.ref pb) (frD 5) := by rw [fr_51]; exact .tup (SqT.of upd_same) (.cons (.int _) (.cons (.int _) .nil))
  generalize upd Hb pb (.tup [.int 5, .int 1]) = Hb' at ub db ⊢
  refine ⟨_, _, .cons (htv.keep (ua.trans (sb.trans ub))) (.cons db .nil), ⟨_, _, rfl, bt.sm (by decide), b5.sm (by decide), rfl⟩, fun hi Hh sh hhi => ?_⟩
  have hlo : DV K Hb lo (frD (top + 1 / 9)) := hlo
  have hhi : DV K Hh hi (frD (top + 5)) := hhi
  refine ⟨(by show 3 ≤ sizeLine; decide), fun pe hpe => ?_⟩
  have ue := same_new hpe (.tup [.str "stop", lo, hi])
  have de : DV K (upd Hh pe (.tup [.str "stop", lo, hi])) (.ref pe) (pcD (.stop (top + 1 / 9) (top + 5))) := .tup (SqT.of upd_same) (.cons (.str _) (.cons (hlo.keep (ub.trans (sh.trans ue))) (.cons (hhi.keep ue) .nil)))
  have te := t10.trans (ua.trans (sb.trans (ub.trans (sh.trans ue))))
  generalize upd Hh pe (.tup [.str "stop", lo, hi]) = He at ue de te ⊢
  have hde := te _ _ hd9
  refine ⟨_, rfl, _, rfl, p2, _, rfl, DPut.k (k := .inl (k : Int)) hde (small1000 (by omega)), ?_⟩
  have dcf := ((dc9.keep te).put (k := k) (q := (top + 1 / 9, top + 5)) de).keepT ((sd_upd (o := .dK (putK kvs4 (.inl (k : Int)) (.ref pe)))).tD hde)
  rw [set_twice] at dcf
  have sf : Same H1 (upd He p2 (.dK (putK kvs4 (.inl (k : Int)) (.ref pe)))) := same_upd2 (s4.trans (s49.trans te)) hp2
  have hdf : upd He p2 (.dK (putK kvs4 (.inl (k : Int)) (.ref pe))) p2 = some (.dK (putK kvs4 (.inl (k : Int)) (.ref pe))) := upd_same
  generalize putK kvs4 (.inl (k : Int)) (.ref pe) = kvs5 at dcf sf hdf ⊢
  dsimp only
  generalize upd He p2 (.dK kvs5) = Hf at dcf sf hdf ⊢
  have tf := t1.trans sf
  refine ⟨_, rfl, _, rfl, lp, p2, xs, ps, _, _, rfl, tf _ _ hlp, hxs.keep tf, p48.l3, hdf, dcf, fun l5 H5 ys5 s5 n5 hl5 hys5 => ?_⟩
  have t5 := tf.trans s5
  refine ⟨_, rfl, .ref l5, bv, _, x, 184, 184, 26, 184, rfl, .lst (SqL.of hl5) hys5, hbv.keep t5, g2, by omega, fo2, by decide, fun lz rz Hz sz nz hlz hrz => ?_⟩
  rw [em2] at hrz
  refine ⟨(by show 0 ≤ sizeLine; decide), fun pz hpz => ?_⟩
  have uz := same_new hpz (.lst [])
  exact eq_nil (ds := []) (.lst (SqL.of (uz _ _ hlz)) (hrz.keep uz)) (.lst (SqL.of upd_same) .nil) flat_nil (q _ (t5.trans (sz.trans uz)))
end
end K48
namespace K48
open PySem L2 Lib Fr Op
seal PE PT PW PA PS PSs PG PGs PI PO PIfs
section
variable {P : Program} {w : World} {K : PySem.W.Frag} {mg : Str → Option Value} {base : Heap} {ad : Adr} {c : Bool}
theorem ok_law (T : Txt K mg ad) {fa : Addr} {fd : FuncData} (F : Fun K "law" "law" s_law fa fd) : FnB P w K mg base true 11 fa fd ["_law_script"] (spLaw K) := by
  have C__law_cell_at := c__law_cell_at (P := P) (w := w) (base := base) T
  have C__law_box := c__law_box (P := P) (w := w) (base := base) T
  have C__law_pieces := c__law_pieces (P := P) (w := w) (base := base) T
  have C__law_height := c__law_height (P := P) (w := w) (base := base) T
  have C__law_with := c__law_with (P := P) (w := w) (base := base) T
  have C__law_shut := c__law_shut (P := P) (w := w) (base := base) T
  have C__law_mix := c__law_mix (P := P) (w := w) (base := base) T
  have C_ratio_of := c_ratio_of (P := P) (w := w) (base := base) T
  have C_sum_of := c_sum_of (P := P) (w := w) (base := base) T
  have C_product_of := c_product_of (P := P) (w := w) (base := base) T
  have C_less_by := c_less_by (P := P) (w := w) (base := base) T
  have C_size_of := c_size_of (P := P) (w := w) (base := base) T
  have C_is_within := c_is_within (P := P) (w := w) (base := base) T
  have C_is_less := c_is_less (P := P) (w := w) (base := base) T
  have C_goes_by := c_goes_by (P := P) (w := w) (base := base) T
  have C_field_of := l_field_of (P := P) (w := w) (base := base) T
  refine F.okB sc_law (fun vs H Q E h => ?_) (fun cdv A outer s H vs Q E hr h => ?_)
  · obtain ⟨a, ns, rfl, _⟩ := h; rfl
  obtain ⟨a, ns, rfl, hS, h63, q⟩ := h
  refine ⟨_, (pss_cons (ps_set (i := 1) sc_law.nd rfl (by first | exact Or.inl rfl | exact Or.inr rfl) (pe_cB C__law_box (hr.mono (by decide)) pass01 (pa_call (pe_cB C__law_cell_at (hr.mono (by decide)) pass01 (pa_name (pv 0) (pa_const pe_int pa_nil))) pa_nil))) (pss_cons (ps_set (i := 2) sc_law.nd rfl (by first | exact Or.inl rfl | exact Or.inr rfl) (pe_cB C__law_pieces (hr.mono (by decide)) pass01 (pa_bin (pe_op op_cat (pe_lst (pa_call (pe_cB C__law_cell_at (hr.mono (by decide)) pass01 (pa_name (pv 0) (pa_const pe_int pa_nil))) (pa_call (pe_cB C__law_cell_at (hr.mono (by decide)) pass01 (pa_name (pv 0) (pa_const pe_int pa_nil))) pa_nil))) (pe_slice sl_list (pv 0) (po_some pe_int) (po_some pe_int))) pa_nil))) (pss_cons (ps_set (i := 3) sc_law.nd rfl (by first | exact Or.inl rfl | exact Or.inr rfl) (pe_cB C__law_cell_at (hr.mono (by decide)) pass01 (pa_name (pv 0) (pa_const pe_int pa_nil)))) (pss_cons (ps_set (i := 4) sc_law.nd rfl (by first | exact Or.inl rfl | exact Or.inr rfl) (pe_compX ["_law_by", "_law_cell"] [none, some 3] rfl (pi_tup (pe_tup (pa_const pe_int (pa_const pe_int pa_nil)))) (fun _ _ _ _ _ _ => (pg_name (i := 0) (show List.Nodup [("_law_by" : Str), ("_law_cell" : Str)] by decide) rfl (by first | exact Or.inl rfl | exact Or.inr rfl))) (fun _ _ _ _ _ _ => pifs_nil) (fun _ _ _ _ _ _ => (pe_cB C_ratio_of (hr.mono (by decide)) pass01 (pa_bin (pe_op op_add pe_int (pe_cB C__law_mix (hr.mono (by decide)) pass01 (pa_name (pv 1) (pa_name (pv 0) (pa_const pe_int pa_nil))))) (pa_const pe_int pa_nil)))) (cap_def (hcell := by decide) (hf := (show ∀ y : Str × NameKind, y ∈ _ → y.2 = NameKind.free → (defScope s_law).names.lookup y.1 = some NameKind.cell by decide))) (by decide) rfl (by decide) rfl (fun i j h => by
      rcases i with _ | _ | i
      · simp at h
      · simp at h; subst h; exact ⟨_, rfl, rfl, rfl, rfl⟩
      · simp at h))) (pss_cons (ps_set (i := 5) sc_law.nd rfl (Or.inl rfl) (pe_callTy call_tuple_of rfl T.tuple bt_tuple (pa_cons (pe_compX ["_law_k", "_law_box_here", "_law_share"] [none, some 1, some 4] rfl (pi_range1 rfl T.range (pa_const pe_int pa_nil)) (fun _ _ _ _ _ _ => (pg_name (i := 0) (show List.Nodup [("_law_k" : Str), ("_law_box_here" : Str), ("_law_share" : Str)] by decide) rfl (by first | exact Or.inl rfl | exact Or.inr rfl))) (fun _ _ _ _ _ _ => pifs_nil) (fun _ _ _ _ _ _ => (pe_cB C_sum_of (hr.mono (by decide)) pass01 (pa_sub (pe_ix (ix_tupK (K := K)) (pv 1) (pe_op op_mul pe_int (pv 0)) (fun _ _ => rfl)) (pa_call (pe_cB C_product_of (hr.mono (by decide)) pass01 (pa_sub (pe_ix (ix_listK (K := K)) (pv 2) (pv 0) (fun _ _ => rfl)) (pa_call (pe_cB C_less_by (hr.mono (by decide)) pass01 (pa_sub (pe_ix (ix_tupK (K := K)) (pv 1) (pe_op op_add (pe_op op_mul pe_int (pv 0)) pe_int) (fun _ _ => rfl)) (pa_sub (pe_ix (ix_tupK (K := K)) (pv 1) (pe_op op_mul pe_int (pv 0)) (fun _ _ => rfl)) pa_nil))) pa_nil))) pa_nil)))) (cap_def (hcell := by decide) (hf := (show ∀ y : Str × NameKind, y ∈ _ → y.2 = NameKind.free → (defScope s_law).names.lookup y.1 = some NameKind.cell by decide))) (by decide) rfl (by decide) rfl (fun i j h => by
      rcases i with _ | _ | _ | i
      · simp at h
      · simp at h; subst h; exact ⟨_, rfl, rfl, rfl, rfl⟩
      · simp at h; subst h; exact ⟨_, rfl, rfl, rfl, rfl⟩
      · simp at h)) pa_nil))) (pss_cons (ps_set (i := 6) sc_law.nd rfl (Or.inl rfl) pe_dnewK) (pss_cons (ps_set (i := 7) sc_law.nd rfl (by first | exact Or.inl rfl | exact Or.inr rfl) (pe_cB C_field_of (hr.mono (by decide)) pass01 (pa_name (pv 2) (pa_name (pv 1) pa_nil)))) (pss_cons (ps_for PassesOwn.never rfl (pi_range1 rfl T.range (pa_call (pe_callB call_len_seq rfl T.len bt_len (pa_name (pv 2) pa_nil)) pa_nil)) (pg_name (i := 8) sc_law.nd rfl (by first | exact Or.inl rfl | exact Or.inr rfl)) (pss_cons (ps_set (i := 9) sc_law.nd rfl (by first | exact Or.inl rfl | exact Or.inr rfl) (pe_op op_mod (pe_op op_add (pv 8) (pe_op op_mod (pe_op op_fdiv (pv 3) pe_int) (pe_callB call_len_seq rfl T.len bt_len (pa_name (pv 2) pa_nil)))) (pe_callB call_len_seq rfl T.len bt_len (pa_name (pv 2) pa_nil)))) (pss_cons (ps_set (i := 10) sc_law.nd rfl (Or.inl rfl) (pe_cB C__law_height (hr.mono (by decide)) pass01 (pa_sub (pe_slice sl_list (pv 2) po_none (po_some (pe_op op_add (pv 9) pe_int))) (pa_name (pv 5) pa_nil)))) (pss_cons (ps_set (i := 11) sc_law.nd rfl (Or.inl rfl) (pe_cB C_ratio_of (hr.mono (by decide)) pass01 (pa_call (pe_cB C__law_mix (hr.mono (by decide)) pass01 (pa_bin (pe_op op_add (pv 3) (pv 8)) (pa_const pe_int (pa_const pe_int pa_nil)))) (pa_bin (pe_op op_add pe_int (pe_cB C__law_mix (hr.mono (by decide)) pass01 (pa_bin (pe_op op_add (pv 3) (pv 8)) (pa_const pe_int (pa_const pe_int pa_nil))))) pa_nil)))) (pss_cons (ps_if (pt_not (pt_val (pe_cB C__law_shut (hr.mono (by decide)) pass01 (pa_name (pv 2) (pa_name (pv 6) (pa_name (pv 1) (pa_name (pv 5) (pa_name (pv 7) (pa_name (pv 9) pa_nil))))))))) (pss_one (ps_ret pe_bl)) pss_nil) (pss_cons (ps_dput hr.units1 (pv 6) (pv 9) (pe_tup (pa_const pe_str (pa_call (pe_cB C_less_by (hr.mono (by decide)) pass01 (pa_name (pv 10) (pa_name (pv 11) pa_nil))) (pa_call (pe_cB C_sum_of (hr.mono (by decide)) pass01 (pa_name (pv 10) (pa_call (pe_cB C_ratio_of (hr.mono (by decide)) pass01 (pa_call (pe_cB C__law_mix (hr.mono (by decide)) pass01 (pa_bin (pe_op op_add (pv 3) (pv 8)) (pa_const pe_int (pa_const pe_int pa_nil)))) (pa_const pe_int pa_nil))) pa_nil))) pa_nil)))) rfl) (pss_cons (ps_set (i := 12) sc_law.nd rfl (by first | exact Or.inl rfl | exact Or.inr rfl) (pe_cB C__law_with (hr.mono (by decide)) pass01 (pa_name (pv 2) (pa_name (pv 6) pa_nil)))) (pss_cons (ps_set (i := 13) sc_law.nd rfl (by first | exact Or.inl rfl | exact Or.inr rfl) (pe_cB C_field_of (hr.mono (by decide)) pass01 (pa_name (pv 12) (pa_name (pv 1) pa_nil)))) (pss_cons (ps_if (PW.pt (pw_or (pt_not (pt_val (pe_cB C_is_within (hr.mono (by decide)) pass01 (pa_name (pv 13) (pa_name (pv 5) pa_nil))))) (pw_or1 (pt_val (pe_cB C_is_less (hr.mono (by decide)) pass01 (pa_call (pe_cB C_size_of (hr.mono (by decide)) pass01 (pa_name (pv 7) pa_nil)) (pa_call (pe_cB C_size_of (hr.mono (by decide)) pass01 (pa_name (pv 13) pa_nil)) pa_nil))))))) (pss_one (ps_ret pe_bl)) pss_nil) (pss_cons (ps_if (pt_cmpR (op_neD hr.units) (pe_compX ["_law_corner", "_law_ahead"] [none, some 7] rfl (pi_list (pv 13)) (fun _ _ _ _ _ _ => (pg_name (i := 0) (show List.Nodup [("_law_corner" : Str), ("_law_ahead" : Str)] by decide) rfl (by first | exact Or.inl rfl | exact Or.inr rfl))) (fun _ _ _ _ _ _ => (pifs_one (pt_not (pt_val (pe_cB C_is_within (hr.mono (by decide)) pass01 (pa_name (pv 1) (pa_name (pv 0) pa_nil))))))) (fun _ _ _ _ _ _ => (pv 0)) (cap_def (hcell := by decide) (hf := (show ∀ y : Str × NameKind, y ∈ _ → y.2 = NameKind.free → (defScope s_law).names.lookup y.1 = some NameKind.cell by decide))) (by decide) rfl (by decide) rfl (fun i j h => by
      rcases i with _ | _ | i
      · simp at h
      · simp at h; subst h; exact ⟨_, rfl, rfl, rfl, rfl⟩
      · simp at h)) (pe_lst pa_nil) (nomark _)) (pss_one (ps_ret pe_bl)) pss_nil) (pss_cons (ps_if (pt_cmpR (op_neD hr.units) (pe_compX ["_law_corner", "_law_bench", "_law_found"] [none, some 12, some 13] rfl (pi_list (pv 7)) (fun _ _ _ _ _ _ => (pg_name (i := 0) (show List.Nodup [("_law_corner" : Str), ("_law_bench" : Str), ("_law_found" : Str)] by decide) rfl (by first | exact Or.inl rfl | exact Or.inr rfl))) (fun _ _ _ _ _ _ => (pifs_one (PW.pt (pw_and (pt_val (pe_cB C_goes_by (hr.mono (by decide)) pass01 (pa_name (pv 1) (pa_name (pv 0) pa_nil)))) (pw_and1 (pt_cmpR (op_notInDX (K := K) hr.units) (pv 0) (pv 2) (by rfl))))))) (fun _ _ _ _ _ _ => (pv 0)) (cap_def (hcell := by decide) (hf := (show ∀ y : Str × NameKind, y ∈ _ → y.2 = NameKind.free → (defScope s_law).names.lookup y.1 = some NameKind.cell by decide))) (by decide) rfl (by decide) rfl (fun i j h => by
      rcases i with _ | _ | _ | i
      · simp at h
      · simp at h; subst h; exact ⟨_, rfl, rfl, rfl, rfl⟩
      · simp at h; subst h; exact ⟨_, rfl, rfl, rfl, rfl⟩
      · simp at h)) (pe_lst pa_nil) (nomark _)) (pss_one (ps_ret pe_bl)) pss_nil) (pss_one (ps_set (i := 7) sc_law.nd rfl (by first | exact Or.inl rfl | exact Or.inr rfl) (pv 13)))))))))))))) (pss_one (ps_ret pe_bl)))))))))), ?_⟩
  refine ⟨_, rfl, a, ns, 0, rfl, hS, by decide, fun z0 => ?_⟩
  refine ⟨z0, rfl, fun bv H1 x s1 hbv bx => ?_⟩
  -- the pieces
  obtain ⟨ms, ems⟩ := cut_map ns (some 3) (some 4)
  have hms : ms.length ≤ 1 := by
    have h := cutV_le (ns.map V.int) 3 4
    change (cutV (ns.map V.int) (some 3) (some 4)).length ≤ _ at h
    rw [ems, List.length_map] at h
    exact h
  refine ⟨_, rfl, a, ns, 1, rfl, hS.keep s1, by decide, fun z1 => ?_⟩
  refine ⟨_, rfl, a, ns, 2, rfl, hS.keep s1, by decide, fun z2 => ?_⟩
  refine ⟨(by show 2 ≤ sizeLine; decide), fun p2 hp2 => ?_⟩
  have u2 := same_new hp2 (.lst [.int z1, .int z2])
  have l2 : upd H1 p2 (.lst [.int z1, .int z2]) p2 = some (.lst [.int z1, .int z2]) := upd_same
  generalize upd H1 p2 (.lst [.int z1, .int z2]) = H2 at u2 l2 ⊢
  refine ⟨_, rfl, _, rfl, _, rfl, a, _, rfl, hS.keep (s1.trans u2), fun p3 hp3 => ?_⟩
  rw [ems]
  have u3 := same_new hp3 (.lst (ms.map V.int))
  have l3 : upd H2 p3 (.lst (ms.map V.int)) p3 = some (.lst (ms.map V.int)) := upd_same
  have l23 := u3 _ _ l2
  generalize upd H2 p3 (.lst (ms.map V.int)) = H3 at u3 l3 l23 ⊢
  refine ⟨p2, p3, _, _, rfl, rfl, l23, l3, Nat.le_of_lt (small1000 (by rw [List.length_map]; simp only [List.length_cons, List.length_nil]; omega)), fun p4 hp4 => ?_⟩
  have u4 := same_new hp4 (.lst ([.int z1, .int z2] ++ ms.map V.int))
  refine ⟨p4, z1 :: z2 :: ms, rfl, SqL.of upd_same, by simp only [List.length_cons]; omega, fun lp H5 xs ps s5 np hlp hxs hpl pl => ?_⟩
  have t5 := u2.trans (u3.trans (u4.trans s5))
  have n3 : ps.length ≤ 3 := by rw [hpl]; simp only [List.length_cons]; omega
  have n1 : 0 < ps.length := by rw [hpl]; simp only [List.length_cons]; omega
  have hxl : xs.length = ps.length := by have := hxs.len; rw [List.length_map] at this; exact this
  clear l23 l2 l3 u2 u3 u4
  refine ⟨_, rfl, a, ns, 4, rfl, hS.keep (s1.trans t5), by decide, fun z4 => ?_⟩
  -- the shares
  have hbv5 := hbv.keep t5
  refine ⟨(by show 2 ≤ sizeLine; decide), fun pt hpt => ⟨pt, rfl, ⟨_, SqT.of upd_same⟩, ?_⟩⟩
  have u6 := same_new hpt (.tup [.int 39119, .int 48271])
  have ht6 : upd H5 pt (.tup [.int 39119, .int 48271]) pt = some (.tup [.int 39119, .int 48271]) := upd_same
  generalize upd H5 pt (.tup [.int 39119, .int 48271]) = H6 at u6 ht6 ⊢
  refine comp_tup0 (K := K) (a := pt) (xs := [.int 39119, .int 48271]) (fun i σ ys H' => ∃ c0 qs, σ = [c0, some (.int z4)] ∧ Same H6 H' ∧ DVs K H' ys (qs.map frD) ∧ qs.length = i ∧ ∀ q ∈ qs, Bd 3 q ∧ 0 ≤ q ∧ q ≤ 1) ⟨_, [], rfl, Same.refl _, .nil, rfl, fun _ h => nomatch h⟩ ?_ ?_ ?_
  · rintro i σ ys H' hi ⟨c0, qs, rfl, s', hys, rfl, _⟩
    refine ⟨?_, SqT.of (s' _ _ ht6)⟩
    have := hys.len
    rw [List.length_map] at this
    simp only [List.length_cons, List.length_nil] at hi
    exact Nat.le_of_lt (small1000 (by omega))
  · rintro i v σ ys H' hi ⟨c0, qs, rfl, s', hys, rfl, hq⟩
    obtain ⟨b, rfl, b0, b1⟩ : ∃ b : Int, v = .int b ∧ 0 ≤ b ∧ b < 2 ^ 32 := by
      have hm := List.mem_of_getElem? hi
      simp only [List.mem_cons, List.not_mem_nil, or_false] at hm
      rcases hm with rfl | rfl
      · exact ⟨_, rfl, by decide, by decide⟩
      · exact ⟨_, rfl, by decide, by decide⟩
    refine ⟨_, rfl, _, rfl, z4, b, 5, rfl, b0, b1, by decide, fun y y0 y1 => ⟨_, _, rfl, rfl, ?_⟩⟩
    refine ⟨_, _, rfl, (by decide), (by unfold lim; exact Nat.lt_of_lt_of_le (show (6 : Int).natAbs < 2 ^ 7 by decide) (pow_le (by decide))), fun pq hpq => ?_⟩
    have uq := same_new hpq (.tup [.int (Fr.lt (1 + y) 6), .int (Fr.lb (1 + y) 6)])
    have hqv : DV K (upd H' pq (.tup [.int (Fr.lt (1 + y) 6), .int (Fr.lb (1 + y) 6)])) (.ref pq) (frD (Rat.divInt (1 + y) 6)) := dv_low (H := H') (by decide)
    refine nx (lt_of_get hi) ⟨_, qs ++ [Rat.divInt (1 + y) 6], rfl, s'.trans uq, ?_, by rw [List.length_append]; rfl, fun q' h => ?_⟩
    · rw [List.map_append]; exact (hys.keep uq).append (.cons hqv .nil)
    · rcases List.mem_append.mp h with h | h
      · exact hq q' h
      · rw [List.mem_singleton.mp h]; exact sixth y0 y1
  rintro σ ys H7 lsh ⟨c0, qs, rfl, s7, hys, hql, hq⟩ hlsh
  obtain ⟨sh1, sh2, rfl⟩ : ∃ a b, qs = [a, b] := by
    match qs, hql with
    | [a, b], _ => exact ⟨a, b, rfl⟩
  obtain ⟨w1, w2, rfl, hw1, hw2⟩ := hys.two
  obtain ⟨bs1, ps1, qs1⟩ := hq sh1 (by simp)
  obtain ⟨bs2, ps2, qs2⟩ := hq sh2 (by simp)
  have u8 := same_new hlsh (.lst [w1, w2])
  have l8 : upd H7 lsh (.lst [w1, w2]) lsh = some (.lst [w1, w2]) := upd_same
  have hw1 := hw1.keep u8
  have hw2 := hw2.keep u8
  have t8 := u6.trans (s7.trans u8)
  generalize upd H7 lsh (.lst [w1, w2]) = H8 at u8 l8 hw1 hw2 t8 ⊢
  have hbv8 := hbv5.keep t8
  obtain ⟨rb, hasr⟩ := ray48 bx bs1 bs2 ps1 qs1 ps2 qs2
  obtain ⟨ba, x1, x2, x3, x4, rfl, hba, h1, h2, h3, h4⟩ := DV.t4b hbv8
  refine ⟨2, rfl, by decide, by decide, ?_⟩
  refine comp_range0 (lo := 0) (n := Int.toNat 2) (fun i σ ys H' => ∃ c0, σ = [c0, some (.ref ba), some (.ref lsh)] ∧ Same H8 H' ∧ DVs K H' ys (([x.a + sh1 * (x.b - x.a), x.c + sh2 * (x.d - x.c)].take i).map frD)) ⟨_, rfl, Same.refl _, .nil⟩ ?_ ?_ ?_
  · rintro i σ ys H' hi ⟨c0, rfl, s', hys⟩
    have := hys.len
    rw [List.length_map, List.length_take] at this
    simp only [List.length_cons, List.length_nil] at this
    exact Nat.le_of_lt (small1000 (by omega))
  · rintro i σ ys H' hi ⟨c0, rfl, s', hys⟩
    have hba' := hba.keep s'
    have cm : ∀ j : Int, CMul 2 j := fun j => .inl ⟨by decide, by decide⟩
    have i2 : i = 0 ∨ i = 1 := by have : i < 2 := hi; omega
    rcases i2 with rfl | rfl
    · refine ⟨_, rfl, _, rfl, _, _, rfl, rfl, cm _, ba, _, _, _, rfl, rfl, hba', rfl, ?_⟩
      refine ⟨_, rfl, _, rfl, lsh, _, _, _, rfl, rfl, SqL.of (s' _ _ l8), rfl, ?_⟩
      refine ⟨_, rfl, _, rfl, _, _, rfl, rfl, cm _, _, _, rfl, rfl, ba, _, _, _, rfl, rfl, hba', rfl, ?_⟩
      refine ⟨_, rfl, _, rfl, _, _, rfl, rfl, cm _, ba, _, _, _, rfl, rfl, hba', rfl, ?_⟩
      refine ⟨_, _, .cons (h2.keep s') (.cons (h1.keep s') .nil), ⟨_, _, rfl, bx.bd.b.sm (by decide), bx.bd.a.sm (by decide), rfl⟩, fun v2 Ha sa hv2 => ?_⟩
      refine ⟨_, _, .cons (hw1.keep (s'.trans sa)) (.cons hv2 .nil), ⟨_, _, rfl, bs1.sm (by decide), bx.w.sm (by decide), rfl⟩, fun v3 Hb sb hv3 => ?_⟩
      refine ⟨_, _, .cons (h1.keep (s'.trans (sa.trans sb))) (.cons hv3 .nil), ⟨_, _, rfl, bx.bd.a.sm (by decide), (bs1.mul bx.w).sm (by decide), rfl⟩, fun v4 Hc sc hv4 => ?_⟩
      refine nx hi ⟨_, rfl, s'.trans (sa.trans (sb.trans sc)), ?_⟩
      exact (hys.keep (sa.trans (sb.trans sc))).append (.cons hv4 .nil)
    · refine ⟨_, rfl, _, rfl, _, _, rfl, rfl, cm _, ba, _, _, _, rfl, rfl, hba', rfl, ?_⟩
      refine ⟨_, rfl, _, rfl, lsh, _, _, _, rfl, rfl, SqL.of (s' _ _ l8), rfl, ?_⟩
      refine ⟨_, rfl, _, rfl, _, _, rfl, rfl, cm _, _, _, rfl, rfl, ba, _, _, _, rfl, rfl, hba', rfl, ?_⟩
      refine ⟨_, rfl, _, rfl, _, _, rfl, rfl, cm _, ba, _, _, _, rfl, rfl, hba', rfl, ?_⟩
      refine ⟨_, _, .cons (h4.keep s') (.cons (h3.keep s') .nil), ⟨_, _, rfl, bx.bd.d.sm (by decide), bx.bd.c.sm (by decide), rfl⟩, fun v2 Ha sa hv2 => ?_⟩
      refine ⟨_, _, .cons (hw2.keep (s'.trans sa)) (.cons hv2 .nil), ⟨_, _, rfl, bs2.sm (by decide), bx.s.sm (by decide), rfl⟩, fun v3 Hb sb hv3 => ?_⟩
      refine ⟨_, _, .cons (h3.keep (s'.trans (sa.trans sb))) (.cons hv3 .nil), ⟨_, _, rfl, bx.bd.c.sm (by decide), (bs2.mul bx.s).sm (by decide), rfl⟩, fun v4 Hc sc hv4 => ?_⟩
      refine nx hi ⟨_, rfl, s'.trans (sa.trans (sb.trans sc)), ?_⟩
      exact (hys.keep (sa.trans (sb.trans sc))).append (.cons hv4 .nil)
  rintro σ ys H9 lr ⟨c0, rfl, s9, hys⟩ hlr
  have hys : DVs K H9 ys [frD (x.a + sh1 * (x.b - x.a)), frD (x.c + sh2 * (x.d - x.c))] := by
    rw [show Int.toNat 2 = 2 from rfl] at hys
    exact hys
  obtain ⟨y1, y2, rfl, hy1, hy2⟩ := hys.two
  have p48 : Ps48 ps x (x.a + sh1 * (x.b - x.a), x.c + sh2 * (x.d - x.c)) := ⟨pl, n3, bx, rb, hasr⟩
  have u9 := same_new hlr (.lst [y1, y2])
  refine ⟨lr, _, rfl, .inl ⟨SqL.of upd_same, fun pr hpr => ?_⟩⟩
  have ur := same_new hpr (.tup [y1, y2])
  have hrv : DV K (upd (upd H9 lr (.lst [y1, y2])) pr (.tup [y1, y2])) (.ref pr) (rayD (x.a + sh1 * (x.b - x.a), x.c + sh2 * (x.d - x.c))) := .tup (SqT.of upd_same) (.cons (hy1.keep (u9.trans ur)) (.cons (hy2.keep (u9.trans ur)) .nil))
  have tA := t8.trans (s9.trans (u9.trans ur))
  generalize upd (upd H9 lr (.lst [y1, y2])) pr (.tup [y1, y2]) = HA at hrv tA ⊢
  generalize (x.a + sh1 * (x.b - x.a), x.c + sh2 * (x.d - x.c)) = r at hrv p48
  have hbvA := hbv5.keep tA
  have hlpA := tA _ _ hlp
  have hxsA := hxs.keep tA
  clear hys hy1 hy2 s9 u9 ur h1 h2 h3 h4 hba hw1 hw2 hbv8 u8 l8 s7 u6 ht6
  refine fun ds hds => ?_
  have uB := same_new hds (.dK [])
  have hdB : upd HA ds (.dK []) ds = some (.dK []) := upd_same
  generalize upd HA ds (.dK []) = HB at uB hdB ⊢
  have soN : Sok 73 ps fun _ => none := sok_none
  have foN := p48.fo (by decide) soN
  have gN := p48.good (by decide) soN
  have l6N := p48.len6 (S := fun _ => none)
  have wN := with_none ps 0
  rw [wN] at foN gN l6N
  refine ⟨_, rfl, _, rfl, .ref lp, .ref ba, ps, x, 73, 73, 26, 73, rfl, .lst (SqL.of (uB _ _ hlpA)) (hxsA.keep uB), hbvA.keep uB, gN, by omega, foN, by decide, fun la rs HC sC na hla hrs => ?_⟩
  have tC := uB.trans sC
  have hdC := sC _ _ hdB
  have hlpC := tC _ _ hlpA
  have hxsC := hxsA.keep tC
  have hbvC := hbvA.keep tC
  have hrvC := hrv.keep tC
  have nlp : lp ≠ ds := ne_of_none hlpA hds
  have xn : (xs.length : Int) = (ps.length : Int) := by rw [hxl]
  refine ⟨_, rfl, lp, xs, rfl, .inl (SqL.of hlpC), _, rfl, by omega, by omega, ?_⟩
  refine for_range (lo := 0) (n := ((xs.length : Nat) : Int).toNat) (fun j σ H' => ∃ (la : Addr) (S : St48) (c8 c9 c10 c11 c12 c13 : Option V), σ = [some (.ref a), some (.ref ba), some (.ref lp), some (.int z4), some (.ref lsh), some (.ref pr), some (.ref ds), some (.ref la), c8, c9, c10, c11, c12, c13] ∧ SD ds HC H' ∧ At48 K H' ds la ps x r S j (z4 / 3 % (xs.length : Int)).toNat) ⟨la, fun _ => none, _, _, _, _, _, _, rfl, SD.refl _ _, ⟨⟨[], hdC, Nat.le_refl _, fun _ => rfl⟩, ⟨rs, hla, by rw [wN]; exact hrs⟩, soN, in_none, fun _ _ h => absurd rfl h⟩⟩ ?_ ?_
  · rintro j σ H0 hj ⟨la, S, c8, c9, c10, c11, c12, c13, rfl, sd0, at0⟩
    have hj : j < ps.length := by rw [← hxl]; omega
    have st0 := sd0.tD hdC
    have hlp0 := sd0 _ _ nlp hlpC
    have hxs0 := dvs_keepT st0 (noLs_map noL_pc _) hxsC
    have hbv0 := dv_keepT st0 (show noL (boxD x) = true from rfl) hbvC
    have hrv0 := dv_keepT st0 (noL_ray r) hrvC
    have npos : (0 : Int) < ((xs.length : Nat) : Int) := by omega
    have hSk := at0.new hj
    obtain ⟨kvs, hd0, kl0, dc0⟩ := at0.d
    obtain ⟨rs0, hla0, hrs0⟩ := at0.a
    have so := at0.s
    have ins := at0.i
    refine ⟨_, rfl, _, rfl, _, _, rfl, rfl, ⟨by decide, by decide⟩, _, rfl, lp, xs, rfl, .inl (SqL.of hlp0), _, _, rfl, rfl, npos, _, _, rfl, rfl, _, rfl, lp, xs, rfl, .inl (SqL.of hlp0), _, _, rfl, rfl, npos, ?_⟩
    have ekk := turn_int (z := z4) (n := xs.length) (j := j) (by omega)
    dsimp only
    rw [ekk]
    have hk : (j + (z4 / 3 % (xs.length : Int)).toNat) % ps.length < ps.length := Nat.mod_lt _ n1
    have nxt := fun (H' : Hp) (la' : Addr) (q : Rat × Rat) d a s i => At48.next (H' := H') (la' := la') (q := q) at0 d a s i
    rw [hxl] at hSk hk nxt ⊢
    generalize hkk : (j + (z4 / 3 % (ps.length : Int)).toNat) % ps.length = k at hSk hk nxt ⊢
    have ek : ∀ zs : List V, cutV zs none (some ((k : Int) + 1)) = zs.take (k + 1) := fun zs => by rw [show (k : Int) + 1 = ((k + 1 : Nat) : Int) by omega, cut_take]
    have plk : ∀ p ∈ ps.take (k + 1), Pl48 p := fun p hp => pl p (List.mem_of_mem_take hp)
    have l3k : (ps.take (k + 1)).length ≤ 3 := by rw [List.length_take]; omega
    refine ⟨_, rfl, _, rfl, _, _, rfl, rfl, _, rfl, lp, _, rfl, SqL.of hlp0, fun p0 hp0 => ?_⟩
    dsimp only
    rw [ek]
    have u0 := same_new hp0 (.lst (xs.take (k + 1)))
    have d0 : DV K (upd H0 p0 (.lst (xs.take (k + 1)))) (.ref p0) (benchD (ps.take (k + 1))) := .lst (SqL.of upd_same) (by rw [List.map_take]; exact (DVs.take (k + 1) hxs0).keep u0)
    generalize upd H0 p0 (.lst (xs.take (k + 1))) = G0 at u0 d0 ⊢
    refine ⟨_, rfl, .ref p0, .ref pr, ps.take (k + 1), r, 36, rfl, d0, hrv0.keep u0, plk, l3k, p48.rb, by decide, fun hv G1 s1 hhv => ?_⟩
    have t1 := u0.trans s1
    -- open by
    have lim7 : ∀ b : Int, b.natAbs < 2 ^ 7 → b.natAbs < lim := fun b h => Nat.lt_of_lt_of_le h (by unfold lim; exact pow_le (by decide))
    have p7 : (2 : Nat) ^ 7 = 128 := by decide
    refine ⟨_, rfl, _, rfl, _, _, rfl, rfl, _, _, _, rfl, by decide, by decide, by decide, fun y1 y10 y11 => ?_⟩
    refine ⟨_, rfl, _, rfl, _, _, rfl, rfl, _, _, _, rfl, by decide, by decide, by decide, fun y2 y20 y21 => ⟨_, _, rfl, rfl, ?_⟩⟩
    have c0 : (1 + y2 : Int) ≠ 0 := by omega
    have cs7 : (1 + y2 : Int).natAbs < 2 ^ 7 := by omega
    refine ⟨_, _, rfl, c0, lim7 _ cs7, fun po hpo => ?_⟩
    have uo := same_new hpo (.tup [.int (Fr.lt y1 (1 + y2)), .int (Fr.lb y1 (1 + y2))])
    have hov : DV K (upd G1 po (.tup [.int (Fr.lt y1 (1 + y2)), .int (Fr.lb y1 (1 + y2))])) (.ref po) (frD (Rat.divInt y1 (1 + y2))) := dv_low (H := G1) c0
    have bo : Bd 7 (Rat.divInt y1 (1 + y2)) := Bd.of c0 (by omega) cs7
    have no := div_nn y10 (show (0 : Int) ≤ 1 + y2 by omega)
    generalize Rat.divInt y1 (1 + y2) = ow at hov bo no
    generalize upd G1 po (.tup [.int (Fr.lt y1 (1 + y2)), .int (Fr.lb y1 (1 + y2))]) = G2 at uo hov ⊢
    have t2 := t1.trans uo
    -- shut
    refine ⟨_, rfl, _, rfl, _, rfl, _, rfl, _, rfl, _, rfl, lp, ds, la, .ref ba, .ref pr, k, xs, rs0, ps, x, r, kvs, S, rfl, t2 _ _ hlp0, hxs0.keep t2, t2 _ _ hd0, by omega, dc0.keep t2, hbv0.keep t2, hrv0.keep t2, t2 _ _ hla0, hrs0.keep t2, p48, so, ins, hk, hSk, fun G3 s3 => ⟨_, rfl, iteF ?_⟩⟩
    have t3 := t2.trans s3
    -- the stop
    have hh3 := hhv.keep (uo.trans s3)
    have ho3 := hov.keep s3
    have hb : Bd 60 (bend (ps.take (k + 1)) r).1 := by
      have h1 := bend_rb (n := 0) (m := 7) (ps.take (k + 1)) 36 r (fun p hp => (plk p hp).2.1) p48.rb
      have h2 : (ps.take (k + 1)).length * (7 + 1) ≤ 3 * 8 := Nat.mul_le_mul l3k (Nat.le_refl _)
      exact h1.y.mono (by omega)
    refine ⟨_, rfl, _, rfl, _, _, .cons hh3 (.cons ho3 .nil), ⟨_, _, rfl, hb.sm (by decide), bo.sm (by decide), rfl⟩, fun lo G4 s4 hlo => ?_⟩
    refine ⟨_, rfl, _, rfl, _, rfl, _, _, rfl, rfl, _, _, _, rfl, by decide, by decide, by decide, fun y3 y30 y31 => ?_⟩
    refine ⟨_, _, rfl, (by decide), lim7 3 (by decide), fun pw hpw => ?_⟩
    have uw := same_new hpw (.tup [.int (Fr.lt y3 3), .int (Fr.lb y3 3)])
    have hwv : DV K (upd G4 pw (.tup [.int (Fr.lt y3 3), .int (Fr.lb y3 3)])) (.ref pw) (frD (Rat.divInt y3 3)) := dv_low (H := G4) (by decide)
    have bw : Bd 7 (Rat.divInt y3 3) := Bd.of (by decide) (by omega) (by decide)
    have nw := div_nn y30 (show (0 : Int) ≤ 3 by decide)
    generalize Rat.divInt y3 3 = hw at hwv bw nw
    generalize upd G4 pw (.tup [.int (Fr.lt y3 3), .int (Fr.lb y3 3)]) = G5 at uw hwv ⊢
    refine ⟨_, _, .cons (hh3.keep (s4.trans uw)) (.cons hwv .nil), ⟨_, _, rfl, hb.sm (by decide), bw.sm (by decide), rfl⟩, fun hi G6 s6 hhi => ?_⟩
    have stl := p48.round k bo bw
    have hlo : DV K G4 lo (frD ((bend (ps.take (k + 1)) r).1 - ow)) := hlo
    have hhi : DV K G6 hi (frD ((bend (ps.take (k + 1)) r).1 + hw)) := hhi
    have so1 := so.set stl (by show (bend (ps.take (k + 1)) r).1 - ow ≤ (bend (ps.take (k + 1)) r).1 + hw; grind)
    have in1 := ins.set (k := k) (q := ((bend (ps.take (k + 1)) r).1 - ow, (bend (ps.take (k + 1)) r).1 + hw)) (by show (bend (ps.take (k + 1)) r).1 - ow ≤ (bend (ps.take (k + 1)) r).1; grind) (by show (bend (ps.take (k + 1)) r).1 ≤ (bend (ps.take (k + 1)) r).1 + hw; grind)
    generalize (bend (ps.take (k + 1)) r).1 - ow = loq at hlo so1 in1
    generalize (bend (ps.take (k + 1)) r).1 + hw = hiq at hhi so1 in1
    refine ⟨(by show 3 ≤ sizeLine; decide), fun pe hpe => ?_⟩
    have ue := same_new hpe (.tup [.str "stop", lo, hi])
    have de : DV K (upd G6 pe (.tup [.str "stop", lo, hi])) (.ref pe) (pcD (.stop loq hiq)) := .tup (SqT.of upd_same) (.cons (.str _) (.cons (hlo.keep (uw.trans (s6.trans ue))) (.cons (hhi.keep ue) .nil)))
    have t6 := t3.trans (s4.trans (uw.trans (s6.trans ue)))
    generalize upd G6 pe (.tup [.str "stop", lo, hi]) = G7 at ue de t6 ⊢
    have hd7 := t6 _ _ hd0
    refine ⟨_, rfl, _, rfl, ds, _, rfl, DPut.k (k := .inl (k : Int)) hd7 (small1000 (by omega)), ?_⟩
    have sT7 := (sd_upd (d := ds) (o := .dK (putK kvs (.inl (k : Int)) (.ref pe)))).tD hd7
    have dc8 := ((dc0.keep t6).put (k := k) (q := (loq, hiq)) de).keepT sT7
    have sd8 : SD ds H0 (upd G7 ds (.dK (putK kvs (.inl (k : Int)) (.ref pe)))) := (t6.sd ds).trans sd_upd
    have hd8 : upd G7 ds (.dK (putK kvs (.inl (k : Int)) (.ref pe))) ds = some (.dK (putK kvs (.inl (k : Int)) (.ref pe))) := upd_same
    have kl8 : (putK kvs (.inl (k : Int)) (.ref pe)).length ≤ j + 1 := Nat.le_trans (length_putK _ _ _) (by omega)
    generalize putK kvs (.inl (k : Int)) (.ref pe) = kvs8 at dc8 sd8 hd8 kl8 sT7 ⊢
    dsimp only
    generalize upd G7 ds (.dK kvs8) = G8 at dc8 sd8 hd8 sT7 ⊢
    have nla : la ≠ ds := fun e => by rw [e, hd0] at hla0; cases hla0
    have st8 := sd8.tD hd0
    have hlp8 := sd8 _ _ nlp hlp0
    have hxs8 := dvs_keepT st8 (noLs_map noL_pc _) hxs0
    have hbv8 := dv_keepT st8 (show noL (boxD x) = true from rfl) hbv0
    have hrv8 := dv_keepT st8 (noL_ray r) hrv0
    have hla8 := sd8 _ _ nla hla0
    have hrs8 := dvs_keepT st8 (noLs_map noL_ray _) hrs0
    clear sT7 st8
    -- the bench, the field
    refine ⟨_, rfl, _, rfl, lp, ds, xs, ps, _, _, rfl, hlp8, hxs8, n3, hd8, dc8, fun lb G9 ys s9 nb hlb hys => ?_⟩
    have fo0 := p48.fo (by decide) so
    have fo1 := p48.fo (by decide) so1
    have g1 := p48.good (by decide) so1
    have l61 := p48.len6 (S := setS S k (loq, hiq))
    have n0 := p48.n10 (by decide) so
    have n1' := p48.n10 (by decide) so1
    have wi1 := (within_in fo1.poly.es (rotL_lf _) r).mpr (p48.in (by decide) so1 in1)
    have sml := p48.smaller so hk hSk so1
    have inr := fun c (hc : c ∈ fieldR (lims (withB (setS S k (loq, hiq)) 0 ps)) x) => (within_in fo0.poly.es (rotL_lf _) c).mpr (p48.inner so hk hSk so1 (in_self fo1.poly.es hc))
    have stay := fun c hc hw => p48.stays so hk hSk so1 (c := c) hc hw
    refine ⟨_, rfl, _, rfl, .ref lb, .ref ba, _, x, 73, 73, 26, 73, rfl, .lst (SqL.of hlb) hys, hbv8.keep s9, g1, by omega, fo1, by decide, fun lf rs1 Ga sa nf hlf hrs1 => ?_⟩
    have ta := s9.trans sa
    have rb0 := fo0.poly.rb
    have rb1 := fo1.poly.rb
    have rn0 := fo0.poly.rn
    have rn1 := fo1.poly.rn
    have hB : DV K Ga (.ref lb) (benchD (withB (setS S k (loq, hiq)) 0 ps)) := .lst (SqL.of (sa _ _ hlb)) (hys.keep sa)
    have hF : DV K Ga (.ref lf) (raysD (fieldR (lims (withB (setS S k (loq, hiq)) 0 ps)) x)) := .lst (SqL.of hlf) hrs1
    have hA : DV K Ga (.ref la) (raysD (fieldR (lims (withB S 0 ps)) x)) := .lst (SqL.of (ta _ _ hla8)) (hrs8.keep ta)
    have hlaa := ta _ _ hla8
    have hrsa := hrs8.keep ta
    have nxt' := fun (H' : Hp) (s' : Same Ga H') => nxt H' lf (loq, hiq) ⟨kvs8, s' _ _ (ta _ _ hd8), kl8, dc8.keep (ta.trans s')⟩ ⟨rs1, s' _ _ hlf, hrs1.keep s'⟩ so1 in1
    have sda := sd0.trans (sd8.trans (ta.sd ds))
    generalize withB (setS S k (loq, hiq)) 0 ps = bs at hB hF g1 l61 hrs1 rb1 rn1 n1' wi1 sml inr stay nxt'
    generalize fieldR (lims bs) x = cs1 at hF hrs1 rb1 rn1 n1' wi1 sml inr stay nxt'
    generalize fieldR (lims (withB S 0 ps)) x = cs0 at hA hrsa rb0 rn0 n0 sml inr stay
    refine ⟨_, rfl, _, rfl, _, _, .cons hF (.cons (hrv8.keep ta) .nil), ⟨_, r, 147, 36, rfl, rn1, ⟨p48.rb.y, p48.rb.u⟩, by decide, by omega, rfl⟩, fun fv Gb sb hfv => ?_⟩
    obtain rfl := hfv.bl_of
    rw [wi1]
    have sz : ∀ (cs : List Ray), cs.length ≤ 16 → 147 * (cs.length + 1) + cs.length + 3 ≤ 3900 := fun cs h => by
      have : 147 * (cs.length + 1) ≤ 147 * 17 := Nat.mul_le_mul (Nat.le_refl _) (by omega)
      omega
    have z0 := sz cs0 n0
    have z1 := sz cs1 n1'
    refine ⟨_, rfl, iteF ?_⟩
    refine ⟨_, rfl, _, _, .cons (hA.keep sb) .nil, ⟨_, 147, rfl, rb0, by omega, rfl⟩, fun va Gc sc hva => ?_⟩
    refine ⟨_, rfl, _, _, .cons (hF.keep (sb.trans sc)) .nil, ⟨_, 147, rfl, rb1, by omega, rfl⟩, fun vb Gd sdd hvb => ?_⟩
    refine ⟨_, _, .cons (hva.keep sdd) (.cons hvb .nil), ⟨_, _, rfl, (size_bits rb0).sm (by omega), (size_bits rb1).sm (by omega), rfl⟩, fun vl Ge se hvl => ?_⟩
    obtain rfl := hvl.bl_of
    refine ⟨_, rfl, iteF' (decide_eq_false (Rat.not_lt.mpr sml)) ?_⟩
    have te := sb.trans (sc.trans (sdd.trans se))
    -- no corner beyond
    refine ⟨_, rfl, lf, rfl, ⟨_, SqL.of (te _ _ hlf)⟩, ?_⟩
    refine comp_list (K := K) (a := lf) (xs := rs1) (fun i σ ys H' => ∃ c0, σ = [c0, some (.ref la)] ∧ Same Ge H' ∧ ys = []) ⟨_, rfl, Same.refl _, rfl⟩ ?_ ?_ ?_
    · rintro i σ ys H' hi ⟨c0, rfl, s', rfl⟩
      exact ⟨Nat.zero_le _, SqL.of (s' _ _ (te _ _ hlf))⟩
    · rintro i y σ ys H' hi ⟨c0, rfl, s', rfl⟩
      obtain ⟨d, hd, hy⟩ := hrs1.get hi
      obtain ⟨cr, hcr, rfl⟩ := get_map_ray hd
      have hm := List.mem_of_getElem? hcr
      have t' := te.trans s'
      refine ⟨_, rfl, _, rfl, _, _, .cons (hA.keep t') (.cons (hy.keep t') .nil), ⟨_, cr, 147, 147, rfl, rn0, rn1 cr hm, by decide, by omega, rfl⟩, fun fv Gf sf hfv => ?_⟩
      obtain rfl := hfv.bl_of
      rw [inr cr hm]
      exact ⟨_, rfl, iteF (nx (lt_of_get hi) ⟨_, rfl, s'.trans sf, rfl⟩)⟩
    rintro σ ys Gf lz ⟨c0, rfl, sf, rfl⟩ hlz
    have uz := same_new hlz (.lst [])
    refine ⟨(by show 0 ≤ sizeLine; decide), fun pz hpz => ?_⟩
    have uz2 := same_new hpz (.lst [])
    refine ne_same (d := .list []) (.lst (SqL.of (uz2 _ _ upd_same)) .nil) (.lst (SqL.of upd_same) .nil) flat_nil ⟨_, rfl, iteF ?_⟩
    have tg := te.trans (sf.trans (uz.trans uz2))
    generalize upd (upd Gf lz (.lst [])) pz (.lst []) = Gg at tg ⊢
    clear uz uz2 sf se sdd sc sb te
    -- no corner lost
    refine ⟨_, rfl, la, rfl, ⟨_, SqL.of (tg _ _ hlaa)⟩, ?_⟩
    refine comp_list (K := K) (a := la) (xs := rs0) (fun i σ ys H' => ∃ c0, σ = [c0, some (.ref lb), some (.ref lf)] ∧ Same Gg H' ∧ ys = []) ⟨_, rfl, Same.refl _, rfl⟩ ?_ ?_ ?_
    · rintro i σ ys H' hi ⟨c0, rfl, s', rfl⟩
      exact ⟨Nat.zero_le _, SqL.of (s' _ _ (tg _ _ hlaa))⟩
    · rintro i y σ ys H' hi ⟨c0, rfl, s', rfl⟩
      obtain ⟨d, hd, hy⟩ := hrsa.get hi
      obtain ⟨cr, hcr, rfl⟩ := get_map_ray hd
      have hm := List.mem_of_getElem? hcr
      have t' := tg.trans s'
      refine ⟨_, rfl, _, rfl, _, _, .cons (hB.keep t') (.cons (hy.keep t') .nil), ⟨_, cr, 147, 73, rfl, g1, rb0 cr hm, by omega, rfl⟩, fun fv Gf sf hfv => ?_⟩
      obtain rfl := hfv.bl_of
      refine ⟨_, rfl, ?_⟩
      have t2' := t'.trans sf
      cases hwk : (walk bs cr).2 with
      | some k' => exact iteF (iteF (nx (lt_of_get hi) ⟨_, rfl, s'.trans sf, rfl⟩))
      | none =>
        refine iteT ?_
        have st := stay cr hm hwk
        refine ⟨_, rfl, _, rfl, lf, _, rayD cr, cs1.map rayD, rfl, SqL.of (t2' _ _ hlf), hy.keep t2', hrs1.keep t2', rfl, (by show (rayD cr).depth ≤ 60; exact Nat.le_trans (flat_ray cr).d (by decide)), lay_rays _, _, rfl, ?_⟩
        rw [any_ray, mem_any]
        exact iteF' (by rw [decide_eq_true st]; rfl) (nx (lt_of_get hi) ⟨_, rfl, s'.trans sf, rfl⟩)
    rintro σ ys Gf lz ⟨c0, rfl, sf, rfl⟩ hlz
    have uz := same_new hlz (.lst [])
    refine ⟨(by show 0 ≤ sizeLine; decide), fun pz hpz => ?_⟩
    have uz2 := same_new hpz (.lst [])
    refine ne_same (d := .list []) (.lst (SqL.of (uz2 _ _ upd_same)) .nil) (.lst (SqL.of upd_same) .nil) flat_nil ⟨_, rfl, iteF ?_⟩
    have th := tg.trans (sf.trans (uz.trans uz2))
    refine ⟨_, rfl, lf, setS S k (loq, hiq), _, _, _, _, _, _, rfl, sda.trans (th.sd ds), ?_⟩
    exact nxt' _ th
  · rintro σ H' ⟨la, S, c8, c9, c10, c11, c12, c13, rfl, sd0, at0⟩
    exact q _
theorem law_fd {fa : Addr} (F : TopFn K mg "law" s_law) (hmg : mg "law" = some (.ref fa)) : ∃ fd, Fun K "law" "law" s_law fa fd ∧ ∀ (s : Shared) (u : Value), BindsTo s fd ⟨[u], []⟩ [("_law_script", u)] := by
  obtain ⟨f, fd, F, hm⟩ := F.ex
  cases hmg.symm.trans hm
  obtain ⟨oc, od, kV, doc, pm, an, cdv, ct, osl, rfl, l, c⟩ := id F.ex
  exact ⟨_, F, fun s u => .of_eq rfl⟩
end
end K48
namespace K48
open PySem L2 Lib
theorem walk {l : PySem.W.OpenLaw} {q : Program} {loose : List Str} {XP : (Str → Option Value) → Heap → Prop} {YP : World → Heap → Prop} {d : DefRec} {K : Params → PySem.W.Frag} (hn : l.most = some 63) (hdf : d.params.defaults = [])
    (hY : ∀ (w : World) (h : Heap), YP w h → (K w.params).In h)
    (F : ∀ (w : World) (mg : Str → Option Value) (fa : Addr) (h : Heap), (K w.params).In h → h.Ns mainGlobals mg → mg d.name = some (.ref fa) →
      ∃ fd : FuncData, (∀ (s : Shared) (u : Value), BindsTo s fd ⟨[u], []⟩ [("_law_script", u)]) ∧ ∀ base : Heap, (K w.params).In base → base.Ns mainGlobals mg → FnOk l.prog w (K w.params) mg base (CX1 l.prog w) 11 fa fd ["_law_script"] (spLaw (K w.params))) :
    PySem.W.WalkO q loose XP YP l.row.toRowW d [] (fun f vs => PySem.call f vs) :=
  L2.walk_of (n := 63) (k := 11) (x := "_law_script") (CX := fun w => CX1 l.prog w) (sp := fun w => spLaw (K w.params)) hn (by decide) hdf ⟨rfl, by decide, by decide⟩ hY F (fun _ _ a ns hl _ hS => ⟨a, ns, rfl, hS, hl, fun _ => rfl⟩) fun _ _ _ _ _ z => by
    obtain ⟨_, _, _, _, _, _, _, _, _, _, _, _, q⟩ := z
    exact q
end K48
def PySem.W.Fast.tw6569898856235163223 : Unit := ()
def PySem.W.Fast.tw13116776573404582394 : Unit := ()
def PySem.W.Fast.tw17478337656701104695 : Unit := ()
def PySem.W.Fast.tw12234671995366604058 : Unit := ()
def PySem.W.Fast.tw12996044505853719838 : Unit := ()
def PySem.W.Fast.tw13313636804760422561 : Unit := ()
def PySem.W.Fast.tw12526714763258765243 : Unit := ()
def PySem.W.Fast.tw16226131132102468095 : Unit := ()
def PySem.W.Fast.tw11725296702106441370 : Unit := ()
def PySem.W.Fast.tw14657793068594235432 : Unit := ()
def PySem.W.Fast.tw11574607354222639743 : Unit := ()
def PySem.W.Fast.tw10639221321432814038 : Unit := ()
def PySem.W.Fast.tw9100682624294876454 : Unit := ()
def PySem.W.Fast.tw12977513741826327068 : Unit := ()
def PySem.W.Fast.tw5460083007519724915 : Unit := ()
def PySem.W.Fast.tw16071385600117993342 : Unit := ()
def PySem.W.Fast.tw18342398149351098237 : Unit := ()
def PySem.W.Fast.tw13465763993545018935 : Unit := ()
def PySem.W.Fast.tw6826084822210828326 : Unit := ()
def PySem.W.Fast.tw9039122499848919244 : Unit := ()
def PySem.W.Fast.tw5878296813357836407 : Unit := ()
def PySem.W.Fast.tw1210079681295365488 : Unit := ()
def PySem.W.Fast.tw11602776369321665382 : Unit := ()
def PySem.W.Fast.tw186369208996404662 : Unit := ()
def PySem.W.Fast.tw10938026541698584916 : Unit := ()
def PySem.W.Fast.tw7797850308342876060 : Unit := ()
def PySem.W.Fast.tw3276821668212647075 : Unit := ()
def PySem.W.Fast.tw16508374189604962148 : Unit := ()
def PySem.W.Fast.tw10895558176084528794 : Unit := ()
def PySem.W.Fast.tw4245294943049818404 : Unit := ()
def PySem.W.Fast.tw968952167352771984 : Unit := ()
def PySem.W.Fast.tw11947722120660582755 : Unit := ()
def PySem.W.Fast.tw8184478560199439576 : Unit := ()
def PySem.W.Fast.tw5189974186388534904 : Unit := ()
def PySem.W.Fast.tw18223729135668680547 : Unit := ()
open PySem PySem.W PyProof.Rows
set_option maxRecDepth 100000 in
set_option maxHeartbeats 0 in
theorem PySem.Challenge.cw_grindbench_k48_whole_stops_shut_in_turn_holds : PySem.Challenge.rw_grindbench_k48_whole_stops_shut_in_turn.Holds := by
  w_on; o_law; k_head; (case hw => w_witness2)
  k_fill
  refine K48.walk (l := PySem.Challenge.rw_grindbench_k48_whole_stops_shut_in_turn) rfl rfl (fun w h Y => PySem.W.kIn_of Y) ?F
  case F =>
    intro w mg fa h KX G hmg
    have t_is_whole : L2.TopFn (L2.KOf KX) mg "is_whole" K48.s_is_whole := by
      dsimp only [L2.KOf]
      refine' L2.topFn_mk KX G ?a ?l ?c ?k
      (case a => k_is); (case l => k_is); (case c => k_is); (case k => k_is)
    have t_common_divisor : L2.TopFn (L2.KOf KX) mg "common_divisor" K48.s_common_divisor := by
      dsimp only [L2.KOf]
      refine' L2.topFn_mk KX G ?a ?l ?c ?k
      (case a => k_is); (case l => k_is); (case c => k_is); (case k => k_is)
    have t_is_ratio : L2.TopFn (L2.KOf KX) mg "is_ratio" K48.s_is_ratio := by
      dsimp only [L2.KOf]
      refine' L2.topFn_mk KX G ?a ?l ?c ?k
      (case a => k_is); (case l => k_is); (case c => k_is); (case k => k_is)
    have t_ratio_of : L2.TopFn (L2.KOf KX) mg "ratio_of" K48.s_ratio_of := by
      dsimp only [L2.KOf]
      refine' L2.topFn_mk KX G ?a ?l ?c ?k
      (case a => k_is); (case l => k_is); (case c => k_is); (case k => k_is)
    have t_sum_of : L2.TopFn (L2.KOf KX) mg "sum_of" K48.s_sum_of := by
      dsimp only [L2.KOf]
      refine' L2.topFn_mk KX G ?a ?l ?c ?k
      (case a => k_is); (case l => k_is); (case c => k_is); (case k => k_is)
    have t_less_by : L2.TopFn (L2.KOf KX) mg "less_by" K48.s_less_by := by
      dsimp only [L2.KOf]
      refine' L2.topFn_mk KX G ?a ?l ?c ?k
      (case a => k_is); (case l => k_is); (case c => k_is); (case k => k_is)
    have t_product_of : L2.TopFn (L2.KOf KX) mg "product_of" K48.s_product_of := by
      dsimp only [L2.KOf]
      refine' L2.topFn_mk KX G ?a ?l ?c ?k
      (case a => k_is); (case l => k_is); (case c => k_is); (case k => k_is)
    have t_quotient_of : L2.TopFn (L2.KOf KX) mg "quotient_of" K48.s_quotient_of := by
      dsimp only [L2.KOf]
      refine' L2.topFn_mk KX G ?a ?l ?c ?k
      (case a => k_is); (case l => k_is); (case c => k_is); (case k => k_is)
    have t_is_less : L2.TopFn (L2.KOf KX) mg "is_less" K48.s_is_less := by
      dsimp only [L2.KOf]
      refine' L2.topFn_mk KX G ?a ?l ?c ?k
      (case a => k_is); (case l => k_is); (case c => k_is); (case k => k_is)
    have t_is_stretch : L2.TopFn (L2.KOf KX) mg "is_stretch" K48.s_is_stretch := by
      dsimp only [L2.KOf]
      refine' L2.topFn_mk KX G ?a ?l ?c ?k
      (case a => k_is); (case l => k_is); (case c => k_is); (case k => k_is)
    have t_is_box : L2.TopFn (L2.KOf KX) mg "is_box" K48.s_is_box := by
      dsimp only [L2.KOf]
      refine' L2.topFn_mk KX G ?a ?l ?c ?k
      (case a => k_is); (case l => k_is); (case c => k_is); (case k => k_is)
    have t_look_at_box : L2.TopFn (L2.KOf KX) mg "look_at_box" K48.s_look_at_box := by
      dsimp only [L2.KOf]
      refine' L2.topFn_mk KX G ?a ?l ?c ?k
      (case a => k_is); (case l => k_is); (case c => k_is); (case k => k_is)
    have t_is_piece : L2.TopFn (L2.KOf KX) mg "is_piece" K48.s_is_piece := by
      dsimp only [L2.KOf]
      refine' L2.topFn_mk KX G ?a ?l ?c ?k
      (case a => k_is); (case l => k_is); (case c => k_is); (case k => k_is)
    have t_piece_of : L2.TopFn (L2.KOf KX) mg "piece_of" K48.s_piece_of := by
      dsimp only [L2.KOf]
      refine' L2.topFn_mk KX G ?a ?l ?c ?k
      (case a => k_is); (case l => k_is); (case c => k_is); (case k => k_is)
    have t_look_at : L2.TopFn (L2.KOf KX) mg "look_at" K48.s_look_at := by
      dsimp only [L2.KOf]
      refine' L2.topFn_mk KX G ?a ?l ?c ?k
      (case a => k_is); (case l => k_is); (case c => k_is); (case k => k_is)
    have t_limits_of : L2.TopFn (L2.KOf KX) mg "limits_of" K48.s_limits_of := by
      dsimp only [L2.KOf]
      refine' L2.topFn_mk KX G ?a ?l ?c ?k
      (case a => k_is); (case l => k_is); (case c => k_is); (case k => k_is)
    have t_is_before : L2.TopFn (L2.KOf KX) mg "is_before" K48.s_is_before := by
      dsimp only [L2.KOf]
      refine' L2.topFn_mk KX G ?a ?l ?c ?k
      (case a => k_is); (case l => k_is); (case c => k_is); (case k => k_is)
    have t_turn_of : L2.TopFn (L2.KOf KX) mg "turn_of" K48.s_turn_of := by
      dsimp only [L2.KOf]
      refine' L2.topFn_mk KX G ?a ?l ?c ?k
      (case a => k_is); (case l => k_is); (case c => k_is); (case k => k_is)
    have t_corners_of : L2.TopFn (L2.KOf KX) mg "corners_of" K48.s_corners_of := by
      dsimp only [L2.KOf]
      refine' L2.topFn_mk KX G ?a ?l ?c ?k
      (case a => k_is); (case l => k_is); (case c => k_is); (case k => k_is)
    have t_edges_of : L2.TopFn (L2.KOf KX) mg "edges_of" K48.s_edges_of := by
      dsimp only [L2.KOf]
      refine' L2.topFn_mk KX G ?a ?l ?c ?k
      (case a => k_is); (case l => k_is); (case c => k_is); (case k => k_is)
    have t_room_at : L2.TopFn (L2.KOf KX) mg "room_at" K48.s_room_at := by
      dsimp only [L2.KOf]
      refine' L2.topFn_mk KX G ?a ?l ?c ?k
      (case a => k_is); (case l => k_is); (case c => k_is); (case k => k_is)
    have t_crossing_of : L2.TopFn (L2.KOf KX) mg "crossing_of" K48.s_crossing_of := by
      dsimp only [L2.KOf]
      refine' L2.topFn_mk KX G ?a ?l ?c ?k
      (case a => k_is); (case l => k_is); (case c => k_is); (case k => k_is)
    have t_cut_by : L2.TopFn (L2.KOf KX) mg "cut_by" K48.s_cut_by := by
      dsimp only [L2.KOf]
      refine' L2.topFn_mk KX G ?a ?l ?c ?k
      (case a => k_is); (case l => k_is); (case c => k_is); (case k => k_is)
    have t_from_the_least : L2.TopFn (L2.KOf KX) mg "from_the_least" K48.s_from_the_least := by
      dsimp only [L2.KOf]
      refine' L2.topFn_mk KX G ?a ?l ?c ?k
      (case a => k_is); (case l => k_is); (case c => k_is); (case k => k_is)
    have t_field_of : L2.TopFn (L2.KOf KX) mg "field_of" K48.s_field_of := by
      dsimp only [L2.KOf]
      refine' L2.topFn_mk KX G ?a ?l ?c ?k
      (case a => k_is); (case l => k_is); (case c => k_is); (case k => k_is)
    have t_is_within : L2.TopFn (L2.KOf KX) mg "is_within" K48.s_is_within := by
      dsimp only [L2.KOf]
      refine' L2.topFn_mk KX G ?a ?l ?c ?k
      (case a => k_is); (case l => k_is); (case c => k_is); (case k => k_is)
    have t_size_of : L2.TopFn (L2.KOf KX) mg "size_of" K48.s_size_of := by
      dsimp only [L2.KOf]
      refine' L2.topFn_mk KX G ?a ?l ?c ?k
      (case a => k_is); (case l => k_is); (case c => k_is); (case k => k_is)
    have t_walk_of : L2.TopFn (L2.KOf KX) mg "walk_of" K48.s_walk_of := by
      dsimp only [L2.KOf]
      refine' L2.topFn_mk KX G ?a ?l ?c ?k
      (case a => k_is); (case l => k_is); (case c => k_is); (case k => k_is)
    have t_goes_by : L2.TopFn (L2.KOf KX) mg "goes_by" K48.s_goes_by := by
      dsimp only [L2.KOf]
      refine' L2.topFn_mk KX G ?a ?l ?c ?k
      (case a => k_is); (case l => k_is); (case c => k_is); (case k => k_is)
    have t__law_cell_at : L2.TopFn (L2.KOf KX) mg "_law_cell_at" K48.s__law_cell_at := by
      dsimp only [L2.KOf]
      refine' L2.topFn_mk KX G ?a ?l ?c ?k
      (case a => k_is); (case l => k_is); (case c => k_is); (case k => k_is)
    have t__law_mix : L2.TopFn (L2.KOf KX) mg "_law_mix" K48.s__law_mix := by
      dsimp only [L2.KOf]
      refine' L2.topFn_mk KX G ?a ?l ?c ?k
      (case a => k_is); (case l => k_is); (case c => k_is); (case k => k_is)
    have t__law_ratio : L2.TopFn (L2.KOf KX) mg "_law_ratio" K48.s__law_ratio := by
      dsimp only [L2.KOf]
      refine' L2.topFn_mk KX G ?a ?l ?c ?k
      (case a => k_is); (case l => k_is); (case c => k_is); (case k => k_is)
    have t__law_box : L2.TopFn (L2.KOf KX) mg "_law_box" K48.s__law_box := by
      dsimp only [L2.KOf]
      refine' L2.topFn_mk KX G ?a ?l ?c ?k
      (case a => k_is); (case l => k_is); (case c => k_is); (case k => k_is)
    have t__law_pieces : L2.TopFn (L2.KOf KX) mg "_law_pieces" K48.s__law_pieces := by
      dsimp only [L2.KOf]
      refine' L2.topFn_mk KX G ?a ?l ?c ?k
      (case a => k_is); (case l => k_is); (case c => k_is); (case k => k_is)
    have t__law_height : L2.TopFn (L2.KOf KX) mg "_law_height" K48.s__law_height := by
      dsimp only [L2.KOf]
      refine' L2.topFn_mk KX G ?a ?l ?c ?k
      (case a => k_is); (case l => k_is); (case c => k_is); (case k => k_is)
    have t__law_with : L2.TopFn (L2.KOf KX) mg "_law_with" K48.s__law_with := by
      dsimp only [L2.KOf]
      refine' L2.topFn_mk KX G ?a ?l ?c ?k
      (case a => k_is); (case l => k_is); (case c => k_is); (case k => k_is)
    have t__law_shut : L2.TopFn (L2.KOf KX) mg "_law_shut" K48.s__law_shut := by
      dsimp only [L2.KOf]
      refine' L2.topFn_mk KX G ?a ?l ?c ?k
      (case a => k_is); (case l => k_is); (case c => k_is); (case k => k_is)
    have t_law : L2.TopFn (L2.KOf KX) mg "law" K48.s_law := by
      dsimp only [L2.KOf]
      refine' L2.topFn_mk KX G ?a ?l ?c ?k
      (case a => k_is); (case l => k_is); (case c => k_is); (case k => k_is)
    have z_abs : mg "abs" = none := by
      refine' PySem.W.mg_none_of KX G ?a
      (case a => k_is)
    have z_all : mg "all" = none := by
      refine' PySem.W.mg_none_of KX G ?a
      (case a => k_is)
    have z_bool : mg "bool" = none := by
      refine' PySem.W.mg_none_of KX G ?a
      (case a => k_is)
    have z_dict : mg "dict" = none := by
      refine' PySem.W.mg_none_of KX G ?a
      (case a => k_is)
    have z_enumerate : mg "enumerate" = none := by
      refine' PySem.W.mg_none_of KX G ?a
      (case a => k_is)
    have z_int : mg "int" = none := by
      refine' PySem.W.mg_none_of KX G ?a
      (case a => k_is)
    have z_isinstance : mg "isinstance" = none := by
      refine' PySem.W.mg_none_of KX G ?a
      (case a => k_is)
    have z_len : mg "len" = none := by
      refine' PySem.W.mg_none_of KX G ?a
      (case a => k_is)
    have z_list : mg "list" = none := by
      refine' PySem.W.mg_none_of KX G ?a
      (case a => k_is)
    have z_range : mg "range" = none := by
      refine' PySem.W.mg_none_of KX G ?a
      (case a => k_is)
    have z_str : mg "str" = none := by
      refine' PySem.W.mg_none_of KX G ?a
      (case a => k_is)
    have z_tuple : mg "tuple" = none := by
      refine' PySem.W.mg_none_of KX G ?a
      (case a => k_is)
    have X0 : ∃ ad, K48.Exc (L2.KOf KX) mg ad := by
      dsimp only [L2.KOf]
      refine' ⟨_, K48.exc_mk KX G ?m_BenchError ?m_NoNumber ?m_NoBox ?m_NoBench ?m_Piece ?m_Gap ?m_Glass ?m_Stop ?m_GAP ?m_GLASS ?m_STOP ?m_MOST_PIECES ?pg_Gap ?hd_Gap ?po_Gap ?sa_Gap ?mk_Gap_init ?a_Gap_init ?fn_Gap_init ?kc_Gap_init ?l_Gap_init ?c_Gap_init ?kp_Gap_init ?a_Gap_lets ?fn_Gap_lets ?kp_Gap_lets ?l_Gap_lets ?c_Gap_lets ?a_Gap_bent ?fn_Gap_bent ?kp_Gap_bent ?l_Gap_bent ?c_Gap_bent ?n_Gap_length ?pg_Glass ?hd_Glass ?po_Glass ?sa_Glass ?mk_Glass_init ?a_Glass_init ?fn_Glass_init ?kc_Glass_init ?l_Glass_init ?c_Glass_init ?kp_Glass_init ?a_Glass_lets ?fn_Glass_lets ?kp_Glass_lets ?l_Glass_lets ?c_Glass_lets ?a_Glass_bent ?fn_Glass_bent ?kp_Glass_bent ?l_Glass_bent ?c_Glass_bent ?n_Glass_strength ?pg_Stop ?hd_Stop ?po_Stop ?sa_Stop ?mk_Stop_init ?a_Stop_init ?fn_Stop_init ?kc_Stop_init ?l_Stop_init ?c_Stop_init ?kp_Stop_init ?a_Stop_lets ?fn_Stop_lets ?kp_Stop_lets ?l_Stop_lets ?c_Stop_lets ?a_Stop_bent ?fn_Stop_bent ?kp_Stop_bent ?l_Stop_bent ?c_Stop_bent ?n_Stop_low ?n_Stop_high ?m_NOUGHT ?lk_NOUGHT ?m_ONE ?lk_ONE⟩
      (case m_BenchError => k_is); (case m_NoNumber => k_is); (case m_NoBox => k_is); (case m_NoBench => k_is); (case m_Piece => k_is); (case m_Gap => k_is); (case m_Glass => k_is); (case m_Stop => k_is); (case m_GAP => k_is); (case m_GLASS => k_is); (case m_STOP => k_is); (case m_MOST_PIECES => k_is); (case pg_Gap => k_is); (case hd_Gap => k_is); (case po_Gap => k_is); (case sa_Gap => k_is); (case mk_Gap_init => k_is); (case a_Gap_init => k_is); (case fn_Gap_init => k_is); (case kc_Gap_init => k_is); (case l_Gap_init => k_is); (case c_Gap_init => k_is); (case kp_Gap_init => k_is); (case a_Gap_lets => k_is); (case fn_Gap_lets => k_is); (case kp_Gap_lets => k_is); (case l_Gap_lets => k_is); (case c_Gap_lets => k_is); (case a_Gap_bent => k_is); (case fn_Gap_bent => k_is); (case kp_Gap_bent => k_is); (case l_Gap_bent => k_is); (case c_Gap_bent => k_is); (case n_Gap_length => k_is); (case pg_Glass => k_is); (case hd_Glass => k_is); (case po_Glass => k_is); (case sa_Glass => k_is); (case mk_Glass_init => k_is); (case a_Glass_init => k_is); (case fn_Glass_init => k_is); (case kc_Glass_init => k_is); (case l_Glass_init => k_is); (case c_Glass_init => k_is); (case kp_Glass_init => k_is); (case a_Glass_lets => k_is); (case fn_Glass_lets => k_is); (case kp_Glass_lets => k_is); (case l_Glass_lets => k_is); (case c_Glass_lets => k_is); (case a_Glass_bent => k_is); (case fn_Glass_bent => k_is); (case kp_Glass_bent => k_is); (case l_Glass_bent => k_is); (case c_Glass_bent => k_is); (case n_Glass_strength => k_is); (case pg_Stop => k_is); (case hd_Stop => k_is); (case po_Stop => k_is); (case sa_Stop => k_is); (case mk_Stop_init => k_is); (case a_Stop_init => k_is); (case fn_Stop_init => k_is); (case kc_Stop_init => k_is); (case l_Stop_init => k_is); (case c_Stop_init => k_is); (case kp_Stop_init => k_is); (case a_Stop_lets => k_is); (case fn_Stop_lets => k_is); (case kp_Stop_lets => k_is); (case l_Stop_lets => k_is); (case c_Stop_lets => k_is); (case a_Stop_bent => k_is); (case fn_Stop_bent => k_is); (case kp_Stop_bent => k_is); (case l_Stop_bent => k_is); (case c_Stop_bent => k_is); (case n_Stop_low => k_is); (case n_Stop_high => k_is); (case m_NOUGHT => k_is); (case lk_NOUGHT => k_is); (case m_ONE => k_is); (case lk_ONE => k_is)
    obtain ⟨ad, X0⟩ := X0
    obtain ⟨fd, FL, bL⟩ := K48.law_fd t_law hmg
    exact ⟨fd, bL, fun base _ _ => L2.FnB.ok (K48.ok_law ⟨X0, z_abs, z_all, z_bool, z_dict, z_enumerate, z_int, z_isinstance, z_len, z_list, z_range, z_str, z_tuple, t_is_whole, t_common_divisor, t_is_ratio, t_ratio_of, t_sum_of, t_less_by, t_product_of, t_quotient_of, t_is_less, t_is_stretch, t_is_box, t_look_at_box, t_is_piece, t_piece_of, t_look_at, t_limits_of, t_is_before, t_turn_of, t_corners_of, t_edges_of, t_room_at, t_crossing_of, t_cut_by, t_from_the_least, t_field_of, t_is_within, t_size_of, t_walk_of, t_goes_by, t__law_cell_at, t__law_mix, t__law_ratio, t__law_box, t__law_pieces, t__law_height, t__law_with, t__law_shut⟩ FL)⟩
#print axioms PySem.Challenge.cw_grindbench_k48_whole_stops_shut_in_turn_holds
