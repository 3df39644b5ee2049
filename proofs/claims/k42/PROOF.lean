import PyProof.Rows.All
import Wide.All
import OpenK.AllK
import Wide.FinOn
import Lean
import PyProof.EqAt
import PyProof.EqKinds
import PyProof.TupleCall
import PySem.Challenge.RW_grindbench_k42_boxes_refused
set_option Elab.async false
set_option linter.all false
set_option maxRecDepth 100000
set_option maxHeartbeats 1000000
namespace L2
open PySem PySem.Spec PyProof.Rows
abbrev Key := Sum Int Str
def keyIs : Key → Value → Bool
  | .inl k, v => Value.isInt k v
  | .inr x, v => Value.isStrOf x v
def keyH (w : World) : Key → Int
  | .inl k => hashInt k
  | .inr x => hashStr w x
theorem keyIs_shape : ∀ {k : Key} {v : Value}, keyIs k v = true → (∃ i t, k = Sum.inl i ∧ v = Value.int i t) ∨ (∃ x t, k = Sum.inr x ∧ v = Value.str x t)
  | .inl i, v, h => by
    obtain ⟨t, e⟩ := Value.isInt_shape (k := i) (v := v) h
    exact .inl ⟨i, t, rfl, e⟩
  | .inr x, v, h => by
    obtain ⟨t, e⟩ := Value.isStrOf_shape (x := x) (v := v) h
    exact .inr ⟨x, t, rfl, e⟩
theorem key_ll (a b : Int) : decide ((Sum.inl a : Key) = Sum.inl b) = (a == b) := by
  by_cases e : a = b
  · subst e; simp
  · have h : ¬ (Sum.inl a : Key) = Sum.inl b := fun q => e (Sum.inl.inj q)
    rw [decide_eq_false h]
    exact (beq_eq_false_iff_ne.mpr e).symm
theorem key_rr (a b : Str) : decide ((Sum.inr a : Key) = Sum.inr b) = decide (a = b) := by
  by_cases e : a = b
  · subst e; simp
  · have h : ¬ (Sum.inr a : Key) = Sum.inr b := fun q => e (Sum.inr.inj q)
    rw [decide_eq_false h, decide_eq_false e]
theorem key_lr (a : Int) (b : Str) : decide ((Sum.inl a : Key) = Sum.inr b) = false := decide_eq_false (fun q => nomatch q)
theorem key_rl (a : Str) (b : Int) : decide ((Sum.inr a : Key) = Sum.inl b) = false := decide_eq_false (fun q => nomatch q)
def mixKind (prog : Program) (w : World) : PySem.KeyKind prog w Key where
  is := keyIs
  hash := keyH w
  inj := fun v a b ha hb => by
    rcases keyIs_shape ha with ⟨i, t, rfl, rfl⟩ | ⟨x, t, rfl, rfl⟩
    · rcases keyIs_shape hb with ⟨j, u, rfl, e⟩ | ⟨y, u, rfl, e⟩
      · injection e with e1 _; rw [e1]
      · exact nomatch e
    · rcases keyIs_shape hb with ⟨j, u, rfl, e⟩ | ⟨y, u, rfl, e⟩
      · exact nomatch e
      · injection e with e1 _; rw [e1]
  byValue := fun k v h => by
    rcases keyIs_shape h with ⟨i, t, rfl, rfl⟩ | ⟨x, t, rfl, rfl⟩ <;> rfl
  pyHash := fun hv h => by
    rcases keyIs_shape hv with ⟨i, t, rfl, rfl⟩ | ⟨x, t, rfl, rfl⟩
    · exact wpAny_pyHash_int h
    · exact wpAny_pyHash_str h
  eqBool := fun hu hv h => by
    rcases keyIs_shape hu with ⟨i, t, rfl, rfl⟩ | ⟨x, t, rfl, rfl⟩
    · rcases keyIs_shape hv with ⟨j, u, rfl, rfl⟩ | ⟨y, u, rfl, rfl⟩
      · rw [key_ll] at h; exact wpAny_eqBool_int h
      · rw [key_lr] at h; exact SeqAt.EqAt.int_str i t y u _ _ _ _ h
    · rcases keyIs_shape hv with ⟨j, u, rfl, rfl⟩ | ⟨y, u, rfl, rfl⟩
      · rw [key_rl] at h; exact SeqAt.EqAt.str_int x t j u _ _ _ _ h
      · rw [key_rr] at h; exact wpAny_eqBool_str h
  «strs» := fun k x t v h => by
    rcases keyIs_shape h with ⟨i, u, rfl, e⟩ | ⟨y, u, rfl, e⟩
    · exact nomatch e
    · injection e with e1 _
      subst e1
      cases v <;> rfl
end L2
namespace L2
open PySem PySem.Spec PyProof.Rows
inductive V where
  | non | bl (b : Bool) | int (i : Int) | str (x : Str) | byt (b : Array UInt8) | flt (b : UInt64) | ref (a : Addr) | ty (n : String)
  deriving DecidableEq
def RelV : V → Value → Prop
  | .non, u => u = Value.none
  | .bl b, u => u = Value.bool b
  | .int i, u => ∃ t, u = Value.int i t
  | .str x, u => ∃ t, u = Value.str x t
  | .byt b, u => ∃ t, u = Value.bytes b t
  | .flt b, u => ∃ t, u = Value.float b t
  | .ref a, u => u = Value.ref a
  | .ty n, u => u = Value.type n
abbrev Vals : List V → List Value → Prop := Paired RelV
theorem Vals.length {xs : List V} {us : List Value} (r : Vals xs us) : xs.length = us.length := Paired.length r
theorem Vals.get : ∀ {xs : List V} {us : List Value} {i : Nat} {x : V}, Vals xs us → xs[i]? = some x → ∃ u, us[i]? = some u ∧ RelV x u
  | _, _, _, _, .nil, e => by simp at e
  | _, _, 0, _, .cons r _, e => by simp at e; subst e; exact ⟨_, rfl, r⟩
  | _, _, i + 1, x, .cons _ t, e => by
    obtain ⟨u, h1, h2⟩ := Vals.get (i := i) (x := x) t (by simpa using e)
    exact ⟨u, by simpa using h1, h2⟩
theorem Vals.append : ∀ {xs ys : List V} {us ws : List Value}, Vals xs us → Vals ys ws → Vals (xs ++ ys) (us ++ ws)
  | _, _, _, _, .nil, s => s
  | _, _, _, _, .cons r t, s => .cons r (Vals.append t s)
theorem Vals.take : ∀ {xs : List V} {us : List Value} (n : Nat), Vals xs us → Vals (xs.take n) (us.take n)
  | _, _, 0, _ => .nil
  | _, _, _ + 1, .nil => .nil
  | _, _, n + 1, .cons r t => .cons r (Vals.take n t)
theorem Vals.drop : ∀ {xs : List V} {us : List Value} (n : Nat), Vals xs us → Vals (xs.drop n) (us.drop n)
  | _, _, 0, r => r
  | _, _, _ + 1, .nil => .nil
  | _, _, n + 1, .cons _ t => Vals.drop n t
def RelO : Option V → Option Value → Prop
  | some v, some u => RelV v u
  | none, none => True
  | _, _ => False
def KV {κ : Type} : List (κ × V) → List (κ × Value) → Prop := Paired fun (p : κ × V) (q : κ × Value) => p.1 = q.1 ∧ RelV p.2 q.2
def kV : Key → V
  | .inl i => .int i
  | .inr x => .str x
inductive HO where
  /-- a list -/
  | lst (xs : List V)
  /-- a tuple (never changes) -/
  | tup (xs : List V)
  /-- a dict whose keys are ints and texts; one whose keys are tuples of ints and texts (the empty one is both) -/
  | dK (kvs : List (Key × V)) | dT (kvs : List (List Key × V))
  /-- a set of ints: its members, its size -/
  | set (S : Int → Bool) (n : Nat)
  /-- an instance of the class at C, its dict at dx, its attributes -/
  | ins (C dx : Addr) (fs : List (Str × V))
  /-- the dict of the instance at x -/
  | own (x : Addr)
  /-- the dict of an exception -/
  | xd (fs : List (Str × V))
  /-- a bound method, f of x -/
  | met (f x : Addr)
  /-- a range object lo, lo + 1, .. below hi -/
  | rng (lo hi : Int)
  /-- a thing that is known to the object (the script; a dict while a loop walks it): read, never written while it is so -/
  | frz (o : Obj) (u : HO)
  /-- a code object's table -/
  | tbl (ps : Array Value)
  /-- any other thing, by what is true of its one object (a def of one's own: SetO a S n := HO.ext fun h => ..) -/
  | ext (φ : Heap → Prop)
abbrev Hp := Addr → Option HO
def upd (H : Hp) (a : Addr) (o : HO) : Hp := fun b => if b = a then some o else H b
theorem upd_same {H : Hp} {a : Addr} {o : HO} : upd H a o a = some o := by unfold upd; rw [if_pos rfl]
theorem upd_ne {H : Hp} {a b : Addr} {o : HO} (h : b ≠ a) : upd H a o b = H b := by unfold upd; rw [if_neg h]
theorem upd_upd {H : Hp} {a : Addr} {o u : HO} : upd (upd H a o) a u = upd H a u := by
  funext b; unfold upd; split <;> rfl
theorem ne_of_none {H : Hp} {a b : Addr} {o : HO} (h : H a = some o) (h' : H b = none) : a ≠ b := by
  intro e; subst e; rw [h] at h'; cases h'
section
variable (P : Program) (w : World)
def ObjOk (H : Hp) (h : Heap) (a : Addr) : HO → Prop
  | .lst xs => xs.length ≤ sizeLine ∧ ∃ (its : List Value) (n : Nat), Vals xs its ∧ h.get? a = some { cls := .type "list", data := .seq its.toArray n }
  | .tup xs => xs.length ≤ sizeLine ∧ ∃ its : List Value, Vals xs its ∧ IsTup h a its.toArray
  | .dK kvs => kvs.length ≤ sizeLine ∧ (a == sysModules) = false ∧ ∃ vs, KV kvs vs ∧ h.DictOf (mixKind P w) a vs
  | .dT kvs => kvs.length ≤ sizeLine ∧ (a == sysModules) = false ∧ ∃ xs : List (List Key × Addr × Value),
      Paired (fun (p : List Key × V) (q : List Key × Addr × Value) => p.1 = q.1 ∧ H q.2.1 = some (.tup (p.1.map kV)) ∧ RelV p.2 q.2.2) kvs xs ∧
      ∃ o es ep, h.get? a = some o ∧ o.ExactDict ∧ o.data = .dict es ep ∧ es.toList = xs.map (entryOfKey (tupleKind (mixKind P w))) ∧ (xs.map (·.1)).Nodup
  | .set S n => h.SetOf (intKind P w) a S n
  | .ins C dx fs => H dx = some (.own a) ∧ fs.length ≤ 1000 ∧ dx ≠ a ∧ h.get? a = some (PySem.W.instObj C dx) ∧
      ∃ mA, h.Ns1 dx mA ∧ (∀ f, RelO (fs.lookup f) (mA f)) ∧ PySem.Within mA (fs.map (·.1))
  | .own _ => ∃ o, h.get? a = some o
  | .xd fs => ∃ mA, h.Ns1 a mA ∧ ∀ f, RelO (fs.lookup f) (mA f)
  | .rng lo hi => ∃ t u v, h.get? a = some { cls := .type "range", data := .fields #[.int lo t, .int hi u, .int 1 v] }
  | .frz o u => h.get? a = some o ∧ ObjOk H h a u
  | .tbl ps => h.get? a = some { cls := .none, data := .fields ps }
  | .met f x => h.get? a = some (PySem.W.methodObj (.ref f) (.ref x))
  | .ext φ => φ h ∧ (∃ o, h.get? a = some o) ∧ ∀ h1 h2 : Heap, φ h1 → (∀ o, h1.get? a = some o → h2.get? a = some o) → φ h2
def HOk (H : Hp) (h : Heap) : Prop := ∀ a o, H a = some o → ObjOk P w H h a o
end
section
variable {P : Program} {w : World} {H H' : Hp} {h h' : Heap} {a : Addr} {o : HO}
theorem ObjOk.lt (x : ObjOk P w H h a o) : a < h.objs.size := by
  cases o with
  | lst xs => obtain ⟨_, _, _, _, e⟩ := x; exact Heap.lt_size e
  | tup xs => obtain ⟨_, _, _, p⟩ := x; exact p.lt
  | dK kvs => obtain ⟨_, _, _, _, o, _, _, e, _⟩ := x; exact Heap.lt_size e
  | dT kvs => obtain ⟨_, _, _, _, o, _, _, e, _⟩ := x; exact Heap.lt_size e
  | set S n => obtain ⟨o, _, _, _, e, _⟩ := x; exact Heap.lt_size e
  | ins C dx fs => obtain ⟨_, _, _, e, _⟩ := x; exact Heap.lt_size e
  | own y => obtain ⟨_, e⟩ := x; exact Heap.lt_size e
  | xd fs => obtain ⟨_, ⟨_, _, _, e, _⟩, _⟩ := x; exact Heap.lt_size e
  | rng lo hi => obtain ⟨_, _, _, e⟩ := x; exact Heap.lt_size e
  | frz ob u => obtain ⟨e, _⟩ := x; exact Heap.lt_size e
  | tbl ps => exact Heap.lt_size (show h.get? a = some _ from x)
  | met f y => exact Heap.lt_size (show h.get? a = some _ from x)
  | ext φ => obtain ⟨_, ⟨_, e⟩, _⟩ := x; exact Heap.lt_size e
theorem Paired.mapP {α β : Type} {F G : α → β → Prop} : ∀ {l₁ : List α} {l₂ : List β}, Paired F l₁ l₂ → (∀ a b, F a b → G a b) → Paired G l₁ l₂
  | _, _, .nil, _ => .nil
  | _, _, .cons r t, f => .cons (f _ _ r) (Paired.mapP t f)
theorem ObjOk.stay (x : ObjOk P w H h a o) (k : ∀ b u, (b = a ∨ H b = some (.own a)) → h.get? b = some u → h'.get? b = some u)
    (ho : ∀ b, H b = some (.own a) → H' b = some (.own a)) (ht : ∀ b xs, H b = some (.tup xs) → H' b = some (.tup xs)) : ObjOk P w H' h' a o := by
  induction o with
  | lst xs => obtain ⟨z, its, n, r, e⟩ := x; exact ⟨z, its, n, r, k _ _ (.inl rfl) e⟩
  | tup xs => obtain ⟨z, its, r, ob, e, c⟩ := x; exact ⟨z, its, r, ob, k _ _ (.inl rfl) e, c⟩
  | dK kvs => obtain ⟨z, y, vs, r, ob, es, ep, e, c⟩ := x; exact ⟨z, y, vs, r, ob, es, ep, k _ _ (.inl rfl) e, c⟩
  | dT kvs =>
    obtain ⟨z, y, xs, r, ob, es, ep, e, c⟩ := x
    exact ⟨z, y, xs, Paired.mapP r fun p q z => ⟨z.1, ht _ _ z.2.1, z.2.2⟩, ob, es, ep, k _ _ (.inl rfl) e, c⟩
  | set S n => obtain ⟨ob, es, ep, t, e, c⟩ := x; exact ⟨ob, es, ep, t, k _ _ (.inl rfl) e, c⟩
  | ins C dx fs =>
    obtain ⟨d, z, ne, e, mA, ⟨od, es, ep, e2, c⟩, r⟩ := x
    exact ⟨ho _ d, z, ne, k _ _ (.inl rfl) e, mA, ⟨od, es, ep, k _ _ (.inr d) e2, c⟩, r⟩
  | own y => obtain ⟨ob, e⟩ := x; exact ⟨ob, k _ _ (.inl rfl) e⟩
  | xd fs => obtain ⟨mA, ⟨od, es, ep, e, c⟩, r⟩ := x; exact ⟨mA, ⟨od, es, ep, k _ _ (.inl rfl) e, c⟩, r⟩
  | rng lo hi => obtain ⟨t, u, v, e⟩ := x; exact ⟨t, u, v, k _ _ (.inl rfl) e⟩
  | frz ob u ih => obtain ⟨e, q⟩ := x; exact ⟨k _ _ (.inl rfl) e, ih q⟩
  | tbl ps =>
    have e : h.get? a = some { cls := .none, data := .fields ps } := x
    show h'.get? a = some { cls := .none, data := .fields ps }
    exact k a _ (.inl rfl) e
  | met f y =>
    have e : h.get? a = some (PySem.W.methodObj (.ref f) (.ref y)) := x
    show h'.get? a = some (PySem.W.methodObj (.ref f) (.ref y))
    exact k a _ (.inl rfl) e
  | ext φ => obtain ⟨p, ⟨o, e⟩, st⟩ := x; exact ⟨st _ _ p fun o q => k _ _ (.inl rfl) q, ⟨o, k _ _ (.inl rfl) e⟩, st⟩
theorem HOk.lt (x : HOk P w H h) (e : H a = some o) : a < h.objs.size := (x a o e).lt
theorem HOk.fresh (x : HOk P w H h) (e : h.objs.size ≤ a) : H a = none := by
  cases q : H a with
  | none => rfl
  | some u => exact absurd (Nat.lt_of_lt_of_le (x.lt q) e) (Nat.lt_irrefl _)
theorem HOk.kept (x : HOk P w H h) (k : ∀ b u, h.get? b = some u → h'.get? b = some u) : HOk P w H h' := fun a o e =>
  (x a o e).stay (fun b u _ q => k b u q) (fun _ q => q) fun _ _ q => q
theorem HOk.laid (x : HOk P w H h) (k : ∀ b u, h.get? b = some u → h'.get? b = some u) (hp : h.objs.size ≤ a) (new : ObjOk P w (upd H a o) h' a o) : HOk P w (upd H a o) h' := fun b u e => by
  have hn := x.fresh hp
  by_cases hb : b = a
  · subst hb; rw [upd_same] at e; cases e; exact new
  · rw [upd_ne hb] at e
    exact (x b u e).stay (fun c v _ q => k c v q) (fun c q => by rw [upd_ne (ne_of_none q hn)]; exact q) fun c xs q => by rw [upd_ne (ne_of_none q hn)]; exact q
end
def Rd (H : Hp) (a : Addr) (u : HO) : Prop := H a = some u ∨ ∃ o, H a = some (.frz o u)
theorem Rd.ok {P : Program} {w : World} {H : Hp} {h : Heap} {a : Addr} {u : HO} (r : Rd H a u) (x : HOk P w H h) : ObjOk P w H h a u := by
  rcases r with r | ⟨o, r⟩
  · exact x a u r
  · obtain ⟨_, q⟩ := x a _ r
    exact q
def Mut : Option HO → Prop
  | some (.lst _) => True
  | some (.dK _) => True
  | some (.dT _) => True
  | some (.set _ _) => True
  | some (.ins _ _ _) => True
  | some (.ext _) => True
  | _ => False
section
variable {P : Program} {w : World} {H : Hp} {h h' : Heap} {x e : Addr} {o' : HO}
theorem HOk.write (ok : HOk P w H h) (mu : Mut (H x)) (he : e = x ∨ H e = some (.own x)) (k : ∀ b u, b ≠ e → h.get? b = some u → h'.get? b = some u) (heo : ∃ u, h'.get? e = some u)
    (new : ObjOk P w (upd H x o') h' x o') : HOk P w (upd H x o') h' := fun b u q => by
  have nown : ∀ c y, H c = some (.own y) → c ≠ x := fun c y r z => by subst z; rw [r] at mu; exact mu
  have ntup : ∀ c xs, H c = some (.tup xs) → c ≠ x := fun c xs r z => by subst z; rw [r] at mu; exact mu
  by_cases hb : b = x
  · subst hb; rw [upd_same] at q; cases q; exact new
  · rw [upd_ne hb] at q
    by_cases hbe : b = e
    · have q' : H b = some (.own x) := by
        rcases he with z | z
        · exact absurd (hbe.trans z) hb
        · rw [hbe]; exact z
      rw [q] at q'; cases q'
      obtain ⟨v, hv⟩ := heo
      exact ⟨v, by rw [hbe]; exact hv⟩
    · refine (ok b u q).stay (fun c v hc r => k c v ?_ r) (fun c r => by rw [upd_ne (nown c b r)]; exact r) fun c xs r => by rw [upd_ne (ntup c xs r)]; exact r
      rcases hc with rfl | hc
      · exact hbe
      · rintro rfl
        rcases he with z | z
        · exact nown c b hc z
        · rw [hc] at z; cases z; exact hb rfl
end
structure Un (fs ex : List Addr) (H H' : Hp) (h h' : Heap) : Prop where
  keep : ∀ b o, h.get? b = some o → H b = none → b ∉ fs → b ∉ ex → h'.get? b = some o
  slot : ∀ b o, h.get? b = some o → H b = none → b ∈ fs → b ∉ ex → ∃ sl, h'.get? b = some { o with slots := sl }
  free : ∀ b o, h.get? b = some o → H b = none → b ∉ ex → H' b = none
  there : ∀ b o, h.get? b = some o → b ∉ ex → ∃ o', h'.get? b = some o'
  tups : ∀ b xs, H b = some (.tup xs) → H' b = some (.tup xs)
  frzs : ∀ b o u, H b = some (.frz o u) → H' b = some (.frz o u)
  tbls : ∀ b ps, H b = some (.tbl ps) → ∃ more, H' b = some (.tbl (ps ++ more))
section
variable {fs fs' ex ex' : List Addr} {H H1 H2 : Hp} {h h1 h2 h' : Heap} {a x e : Addr} {o : HO}
theorem Un.any (u : Un fs ex H H1 h h1) {b : Addr} {ob : Obj} (q : h.get? b = some ob) (n : H b = none) (hx : b ∉ ex) : ∃ sl, h1.get? b = some { ob with slots := sl } := by
  by_cases hb : b ∈ fs
  · exact u.slot b ob q n hb hx
  · exact ⟨ob.slots, u.keep b ob q n hb hx⟩
theorem Un.kept (k : ∀ b u, h.get? b = some u → h'.get? b = some u) : Un fs ex H H h h' :=
  ⟨fun b ob q _ _ _ => k b ob q, fun b ob q _ _ _ => ⟨ob.slots, k b ob q⟩, fun _ _ _ n _ => n, fun b ob q _ => ⟨ob, k b ob q⟩, fun _ _ q => q, fun _ _ _ q => q, fun _ ps q => ⟨#[], by rw [q]; simp⟩⟩
theorem Un.refl : Un fs ex H H h h := Un.kept fun _ _ q => q
theorem Un.laid (k : ∀ b u, h.get? b = some u → h'.get? b = some u) (hp : h.objs.size ≤ a) (hn : H a = none) : Un fs ex H (upd H a o) h h' where
  keep := fun b u q _ _ _ => k b u q
  slot := fun b u q _ _ _ => ⟨u.slots, k b u q⟩
  free := fun b u q n _ => by rw [upd_ne (Nat.ne_of_lt (Nat.lt_of_lt_of_le (Heap.lt_size q) hp))]; exact n
  there := fun b u q _ => ⟨u, k b u q⟩
  tups := fun b xs q => by rw [upd_ne (ne_of_none q hn)]; exact q
  frzs := fun b u xs q => by rw [upd_ne (ne_of_none q hn)]; exact q
  tbls := fun b ps q => ⟨#[], by rw [upd_ne (ne_of_none q hn), q]; simp⟩
theorem Un.write (mu : Mut (H x)) (he : e = x ∨ H e = some (.own x)) (k : ∀ b u, b ≠ e → h.get? b = some u → h'.get? b = some u) (heo : ∃ u, h'.get? e = some u) : Un fs ex H (upd H x o) h h' := by
  have hx : ∀ b, H b = none → b ≠ x := fun b n z => by subst z; rw [n] at mu; exact mu
  have hb : ∀ b, H b = none → b ≠ e := fun b n z => by
    subst z
    rcases he with r | r
    · exact hx b n r
    · rw [n] at r; cases r
  have hm : ∀ b u, H b = some u → ¬ Mut (some u) → b ≠ x := fun b u q nm z => by subst z; rw [q] at mu; exact nm mu
  refine ⟨fun b u q n _ _ => k b u (hb b n) q, fun b u q n _ _ => ⟨u.slots, k b u (hb b n) q⟩, fun b u q n _ => by rw [upd_ne (hx b n)]; exact n, fun b u q _ => ?_,
    fun b xs q => by rw [upd_ne (hm b _ q fun z => z)]; exact q, fun b u xs q => by rw [upd_ne (hm b _ q fun z => z)]; exact q, fun b ps q => ⟨#[], by rw [upd_ne (hm b _ q fun z => z), q]; simp⟩⟩
  by_cases hbe : b = e
  · subst hbe; exact heo
  · exact ⟨u, k b u hbe q⟩
end
def trk (h : Heap) (H : Hp) : List Addr := (List.range h.objs.size).filter fun a => (H a).isSome
def hidT (h : Heap) (H : Hp) : Heap := PySem.W.hideAll h (trk h H)
theorem hidT_size (h : Heap) (H : Hp) : (hidT h H).objs.size = h.objs.size := PySem.W.hideAll_size _ _
theorem hidT_get {h : Heap} {H : Hp} {b : Addr} {o : Obj} (e : h.get? b = some o) (n : H b = none) : (hidT h H).get? b = some o :=
  PySem.W.hideAll_get _ e fun hm => by
    have q : (H b).isSome = true := (List.mem_filter.mp hm).2
    rw [n] at q; simp at q
theorem of_hidT {h : Heap} {H : Hp} {b : Addr} {o : Obj} (e : (hidT h H).get? b = some o) : h.get? b = some o ∧ H b = none := by
  have e' : h.get? b = some o := PySem.W.of_hideAll (trk h H) e
  refine ⟨e', ?_⟩
  cases q : H b with
  | none => rfl
  | some x =>
    have hm : b ∈ trk h H := List.mem_filter.mpr ⟨List.mem_range.mpr (Heap.lt_size e'), by simp [q]⟩
    have z : (hidT h H).get? b = none := PySem.W.hideAll_none (trk h H) hm
    rw [z] at e; cases e
end L2
namespace L2
open PySem PySem.Spec PyProof.Rows
structure Mod (K : PySem.W.Frag) (mg : Str → Option Value) (base : Heap) : Prop where
  kin : K.In base
  glob : base.Ns mainGlobals mg
  blt : ∃ mb, base.Ns builtinsNs mb ∧ ∀ x : Str, x ≠ "__name__" → mb x = bootBuiltins x
  nolimit : base.NoLimit
structure Cx where
  prog : Program
  w : World
  K : PySem.W.Frag
  mg : Str → Option Value
  base : Heap
  A : Around
  N : List Str
  s₀ : Shared
  H₀ : Hp
  env : Env
  outer : List Env
  stack : List Env
  ex : List Addr
  fn : Str → Bool
  calm : Bool
  pn : List (Addr × Obj)
  xe : Value → Shared → Prop
def frs (l : List Env) : List Addr := l.filterMap (·.frame)
abbrev Cx.fs (X : Cx) : List Addr := frs X.outer
def Vis (sc : Scope) (x : Str) : Prop := sc.names.lookup x = some .local ∨ sc.names.lookup x = some .cell ∨ sc.names.lookup x = some .free
def Loc (sc : Scope) (x : Str) : Prop := sc.names.lookup x = some .local ∨ sc.names.lookup x = some .cell
def Look (env : Env) (h : Heap) (m : Str → Option Value) (x : Str) (u : Value) : Prop :=
  (env.kindOf x = some .local ∧ m x = some u) ∨ ((env.kindOf x = some .cell ∨ env.kindOf x = some .free) ∧ ∃ c, env.cells.lookup x = some c ∧ h.IsCell c (some u))
structure Cx.Ok (X : Cx) : Prop where
  mod : Mod X.K X.mg X.base
  kind : X.env.scope.kind = .function
  glob : X.env.globals = mainGlobals
  blt : X.env.builtins = builtinsNs
  above : X.s₀.heap.objs.size ≤ X.env.locals
  inj : ∀ x y c, X.env.cells.lookup x = some c → X.env.cells.lookup y = some c → x = y
  has : ∀ x, (X.env.kindOf x = some .cell ∨ X.env.kindOf x = some .free) → ∃ c, X.env.cells.lookup x = some c
  cab : ∀ x c, X.fn x = true → X.env.cells.lookup x = some c → X.s₀.heap.objs.size ≤ c
  hd : X.calm = true → X.A.handled = none
  frames : X.A.frames = some X.stack
  stk : X.stack = X.outer ∨ (X.stack = X.env :: X.outer ∧ X.env.frame = some X.env.locals)
  exf : ∀ b ∈ X.ex, b ≠ X.env.locals ∧ ∀ x c, X.env.cells.lookup x = some c → c ≠ b
  bs : ∀ b o, X.base.get? b = some o → X.s₀.heap.get? b = some o ∧ X.H₀ b = none
  bsz : X.base.objs.size ≤ X.s₀.heap.objs.size
  noex : ∀ b o, X.base.get? b = some o → b ∉ X.ex
  exfs : ∀ b ∈ X.ex, b ∉ X.fs
  funs : X.s₀.heap.FunFrames X.base X.outer
  frf : ∀ b ∈ X.fs, X.H₀ b = none
structure Inv (X : Cx) (pins : List (Addr × Obj)) (σ : List (Option V)) (H : Hp) (s : Shared) : Prop where
  ok : X.Ok
  os : s.os = X.s₀.os
  bare : AllBare s.gens
  base : Un X.fs X.ex X.H₀ H X.s₀.heap s.heap
  loc : ∃ m, s.heap.Ns X.env.locals m ∧ ∀ (i : Nat) (x : Str) (v : V), X.N[i]? = some x → σ[i]? = some (some v) → Vis X.env.scope x → ∃ u, RelV v u ∧ Look X.env s.heap m x u
  cell : ∀ x c, X.env.cells.lookup x = some c → ∃ v, s.heap.IsCell c v
  free : H X.env.locals = none
  freeC : ∀ x c, X.env.cells.lookup x = some c → H c = none
  pin : ∀ p ∈ X.pn ++ pins, s.heap.get? p.1 = some p.2 ∧ H p.1 = none ∧ p.1 ≠ X.env.locals ∧ p.1 ∉ X.fs ∧ ∀ v, p.2.data ≠ .cell v
  hok : HOk X.prog X.w H s.heap
  len : σ.length = X.N.length
section
variable {X : Cx} {pins : List (Addr × Obj)} {σ : List (Option V)} {H H' : Hp} {s : Shared} {h' : Heap}
theorem Cx.Ok.nofr (ok : X.Ok) {b : Addr} {o : Obj} (e : X.base.get? b = some o) : b ∉ X.fs := fun hb => by
  have := (ok.funs.mem hb).1
  rw [e] at this; cases this
theorem Inv.bs (I : Inv X pins σ H s) : ∀ b o, X.base.get? b = some o → s.heap.get? b = some o ∧ H b = none := fun b o e =>
  ⟨I.base.keep b o (I.ok.bs b o e).1 (I.ok.bs b o e).2 (I.ok.nofr e) (I.ok.noex b o e), I.base.free b o (I.ok.bs b o e).1 (I.ok.bs b o e).2 (I.ok.noex b o e)⟩
theorem Inv.bk (I : Inv X pins σ H s) : ∀ b o, X.base.get? b = some o → s.heap.get? b = some o := fun b o e => (I.bs b o e).1
theorem Inv.mod (I : Inv X pins σ H s) : Mod X.K X.mg X.base := I.ok.mod
theorem Inv.kIn (I : Inv X pins σ H s) : X.K.In s.heap := I.ok.mod.kin.keeps I.bk
theorem Inv.lt (I : Inv X pins σ H s) : X.env.locals < s.heap.objs.size := let ⟨_, hn, _⟩ := I.loc; hn.lt
theorem Inv.sz (I : Inv X pins σ H s) : X.s₀.heap.objs.size ≤ s.heap.objs.size := Nat.le_trans I.ok.above (Nat.le_of_lt I.lt)
theorem Inv.nofs (I : Inv X pins σ H s) {a : Addr} (h : s.heap.objs.size ≤ a) : a ∉ X.fs := fun hb => by
  obtain ⟨_, o, ho, _⟩ := I.ok.funs.mem hb
  exact absurd (Nat.lt_of_lt_of_le (Heap.lt_size ho) (Nat.le_trans I.sz h)) (Nat.lt_irrefl _)
theorem Inv.cne (I : Inv X pins σ H s) : ∀ x c, X.env.cells.lookup x = some c → c ≠ X.env.locals := fun x c e z => by
  obtain ⟨v, o, ho, hd⟩ := I.cell x c e
  obtain ⟨m, ⟨o', es, ep, ho', hd', _⟩, _⟩ := I.loc
  rw [z, ho'] at ho; cases ho; rw [hd'] at hd; cases hd
theorem Inv.funs (I : Inv X pins σ H s) : s.heap.FunFrames X.base X.outer := by
  have all : ∀ (l : List Env), (∀ b ∈ frs l, b ∈ X.fs) → X.s₀.heap.FunFrames X.base l → s.heap.FunFrames X.base l := by
    intro l
    induction l with
    | nil => intro _ _; trivial
    | cons env r ih =>
      intro hs hl
      obtain ⟨hk, ⟨L, o, hf, hn, ho, hd⟩, hr⟩ := hl
      have hL : L ∈ X.fs := hs L (by unfold frs; rw [List.filterMap_cons, hf]; exact List.mem_cons_self)
      obtain ⟨sl, e⟩ := I.base.slot L o ho (I.ok.frf L hL) hL fun z => I.ok.exfs L z hL
      exact ⟨hk, ⟨L, _, hf, hn, e, hd⟩, ih (fun b hb => hs b (by unfold frs; rw [List.filterMap_cons, hf]; exact List.mem_cons_of_mem _ hb)) hr⟩
  exact all X.outer (fun _ hb => hb) I.ok.funs
theorem Inv.stack (I : Inv X pins σ H s) : s.heap.FunFrames X.base X.stack := by
  rcases I.ok.stk with e | ⟨e, hf⟩
  · rw [e]; exact I.funs
  · rw [e]
    obtain ⟨m, hn, _⟩ := I.loc
    refine .cons (by rw [I.ok.kind]; decide) hf hn ?_ I.funs
    exact Heap.get?_none_of_le (Nat.le_trans I.ok.bsz I.ok.above)
theorem Inv.stkSub (I : Inv X pins σ H s) : ∀ b ∈ frs X.stack, b ∈ X.env.locals :: X.fs := fun b hb => by
  rcases I.ok.stk with e | ⟨e, hf⟩
  · rw [e] at hb; exact List.mem_cons_of_mem _ hb
  · rw [e] at hb
    unfold frs at hb
    rw [List.filterMap_cons, hf] at hb
    exact hb
theorem Inv.stkFree (I : Inv X pins σ H s) : ∀ b ∈ frs X.stack, H b = none := fun b hb => by
  rcases List.mem_cons.mp (I.stkSub b hb) with e | hb
  · rw [e]; exact I.free
  · obtain ⟨_, o, ho, _⟩ := I.ok.funs.mem hb
    exact I.base.free b o ho (I.ok.frf b hb) fun z => I.ok.exfs b z hb
theorem Inv.step {g' : Array GenState} {t' : Nat} {d' : Drawn} {ch : List Addr} (I : Inv X pins σ H s)
    (hch : ∀ b ∈ ch, (b ∈ X.ex ∨ X.s₀.heap.objs.size ≤ b) ∧ b ≠ X.env.locals ∧ (∀ x c, X.env.cells.lookup x = some c → c ≠ b) ∧ ∀ p ∈ X.pn ++ pins, p.1 ≠ b)
    (keep : ∀ b o, b ≠ X.env.locals → b ∉ X.fs → b ∉ ch → s.heap.get? b = some o → H b = none → h'.get? b = some o)
    (slot : ∀ b o, b ≠ X.env.locals → b ∈ X.fs → b ∉ ch → s.heap.get? b = some o → H b = none → ∃ sl, h'.get? b = some { o with slots := sl }) (free : ∀ b o, b ∉ ch → s.heap.get? b = some o → H b = none → H' b = none)
    (there : ∀ b o, b ∉ ch → s.heap.get? b = some o → ∃ o', h'.get? b = some o')
    (tups : ∀ b xs, H b = some (.tup xs) → H' b = some (.tup xs)) (frzs : ∀ b o u, H b = some (.frz o u) → H' b = some (.frz o u)) (tbls : ∀ b ps, H b = some (.tbl ps) → ∃ more, H' b = some (.tbl (ps ++ more)))
    (ns : ∀ m, s.heap.Ns X.env.locals m → h'.Ns X.env.locals m) (hok : HOk X.prog X.w H' h') (hg : AllBare g') :
    Inv X pins σ H' { s with heap := h', gens := g', drawn := d', toks := t' } := by
  have neL : ∀ b o, X.s₀.heap.get? b = some o → b ≠ X.env.locals := fun b o e => Nat.ne_of_lt (Nat.lt_of_lt_of_le (Heap.lt_size e) I.ok.above)
  have neC : ∀ b o, X.s₀.heap.get? b = some o → b ∉ X.ex → b ∉ ch := fun b o e hx hb => by
    rcases (hch b hb).1 with z | z
    · exact hx z
    · exact absurd (Nat.lt_of_lt_of_le (Heap.lt_size e) z) (Nat.lt_irrefl _)
  have cellK : ∀ x c, X.env.cells.lookup x = some c → ∀ v, s.heap.IsCell c v → h'.IsCell c v := fun x c e v ⟨o, ho, hd⟩ => by
    have nch : c ∉ ch := fun z => (hch c z).2.2.1 x c e rfl
    by_cases hc : c ∈ X.fs
    · obtain ⟨sl, q⟩ := slot c o (I.cne x c e) hc nch ho (I.freeC x c e)
      exact ⟨_, q, hd⟩
    · exact ⟨o, keep c o (I.cne x c e) hc nch ho (I.freeC x c e), hd⟩
  refine ⟨I.ok, I.os, hg, ⟨fun b o e n hb hx => ?_, fun b o e n hb hx => ?_, fun b o e n hx => ?_, fun b o e hx => ?_, fun b xs e => tups b xs (I.base.tups b xs e), fun b o xs e => frzs b o xs (I.base.frzs b o xs e), fun b ps e => ?_⟩, ?_, fun x c e => ?_, ?_, fun x c e => ?_, fun p hp => ?_, hok, I.len⟩
  · exact keep b o (neL b o e) hb (neC b o e hx) (I.base.keep b o e n hb hx) (I.base.free b o e n hx)
  · obtain ⟨sl, e1⟩ := I.base.slot b o e n hb hx
    obtain ⟨sl', e2⟩ := slot b _ (neL b o e) hb (neC b o e hx) e1 (I.base.free b o e n hx)
    exact ⟨sl', e2⟩
  · obtain ⟨o', e1⟩ := I.base.there b o e hx
    exact free b o' (neC b o e hx) e1 (I.base.free b o e n hx)
  · obtain ⟨o', e1⟩ := I.base.there b o e hx
    exact there b o' (neC b o e hx) e1
  · obtain ⟨m1, e1⟩ := I.base.tbls b ps e
    obtain ⟨m2, e2⟩ := tbls b _ e1
    exact ⟨m1 ++ m2, by rw [e2, Array.append_assoc]⟩
  · obtain ⟨m, hn, hl⟩ := I.loc
    refine ⟨m, ns m hn, fun i x v e1 e2 e3 => ?_⟩
    obtain ⟨u, r, l⟩ := hl i x v e1 e2 e3
    refine ⟨u, r, ?_⟩
    rcases l with l | ⟨k, c, e, z⟩
    · exact .inl l
    · exact .inr ⟨k, c, e, cellK x c e _ z⟩
  · obtain ⟨v, z⟩ := I.cell x c e
    exact ⟨v, cellK x c e v z⟩
  · obtain ⟨m, ⟨o, _, _, ho, _⟩, _⟩ := I.loc
    exact free _ o (fun z => (hch _ z).2.1 rfl) ho I.free
  · obtain ⟨v, o, ho, hd⟩ := I.cell x c e
    exact free c o (fun z => (hch c z).2.2.1 x c e rfl) ho (I.freeC x c e)
  · obtain ⟨e, n, ne, nf, d⟩ := I.pin p hp
    have nch : p.1 ∉ ch := fun z => (hch p.1 z).2.2.2 p hp rfl
    exact ⟨keep p.1 p.2 ne nf nch e n, free p.1 p.2 nch e n, ne, nf, d⟩
theorem Inv.un {t' : Nat} (I : Inv X pins σ H s) (u : Un X.fs [] H H' s.heap h') (hok : HOk X.prog X.w H' h') : Inv X pins σ H' { s with heap := h', toks := t' } := by
  obtain ⟨m, ⟨o, es, ep, ho, r⟩, _⟩ := id I.loc
  obtain ⟨sl, hL⟩ := u.any ho I.free (by simp)
  exact I.step (g' := s.gens) (d' := s.drawn) (ch := []) (fun _ z => nomatch z) (fun b o _ hb _ e n => u.keep b o e n hb (by simp)) (fun b o _ hb _ e n => u.slot b o e n hb (by simp)) (fun b o _ e n => u.free b o e n (by simp)) (fun b o _ e => u.there b o e (by simp)) u.tups u.frzs u.tbls (fun m' hm => by
    obtain ⟨o', es', ep', ho', r'⟩ := hm
    rw [ho] at ho'; cases ho'
    exact ⟨_, es', ep', hL, r'⟩) hok I.bare
theorem Inv.call {g' : Array GenState} {t' : Nat} {d' : Drawn} {ch : List Addr} (I : Inv X pins σ H s) (u : Un (frs X.stack) ch H H' s.heap h') (hok : HOk X.prog X.w H' h') (hg : AllBare g')
    (hch : ∀ b ∈ ch, (b ∈ X.ex ∨ X.s₀.heap.objs.size ≤ b) ∧ b ≠ X.env.locals ∧ (∀ x c, X.env.cells.lookup x = some c → c ≠ b) ∧ ∀ p ∈ X.pn ++ pins, p.1 ≠ b) :
    Inv X pins σ H' { s with heap := h', gens := g', drawn := d', toks := t' } := by
  obtain ⟨m, ⟨o, es, ep, ho, r⟩, _⟩ := id I.loc
  obtain ⟨sl, hL⟩ := u.any ho I.free fun z => (hch _ z).2.1 rfl
  exact I.step (ch := ch) hch (fun b o hL hb hc e n => u.keep b o e n (fun z => (List.mem_cons.mp (I.stkSub b z)).elim hL hb) hc) (fun b o _ _ hc e n => u.any e n hc) (fun b o hc e n => u.free b o e n hc) (fun b o hc e => u.there b o e hc) u.tups u.frzs u.tbls (fun m' hm => by
    obtain ⟨o', es', ep', ho', r'⟩ := hm
    rw [ho] at ho'; cases ho'
    exact ⟨_, es', ep', hL, r'⟩) hok hg
theorem Inv.turned {t' : Nat} {it : Addr} (I : Inv X pins σ H s) (k : ∀ b o, b ≠ it → s.heap.get? b = some o → h'.get? b = some o) (hn : H it = none) (hL : it ≠ X.env.locals)
    (h1 : it ∈ X.ex ∨ X.s₀.heap.objs.size ≤ it) (h2 : ∀ x c, X.env.cells.lookup x = some c → c ≠ it) (h3 : ∀ p ∈ X.pn ++ pins, p.1 ≠ it) : Inv X pins σ H { s with heap := h', toks := t' } := by
  have nit : ∀ b u, H b = some u → b ≠ it := fun b u e z => by rw [z, hn] at e; cases e
  refine I.step (g' := s.gens) (d' := s.drawn) (ch := [it]) (fun b hb => ?_) (fun b o _ _ hc e _ => k b o (fun z => hc (by simp [z])) e) (fun b o _ _ hc e _ => ⟨o.slots, k b o (fun z => hc (by simp [z])) e⟩) (fun _ _ _ _ n => n)
    (fun b o hc e => ⟨o, k b o (fun z => hc (by simp [z])) e⟩) (fun _ _ e => e) (fun _ _ _ e => e) (fun b ps e => ⟨#[], by rw [e]; simp⟩) (fun m hm => ?_) (fun b u e => ?_) I.bare
  · have e : b = it := by simpa using hb
    subst e
    exact ⟨h1, hL, h2, h3⟩
  · obtain ⟨o, es, ep, ho, r⟩ := hm
    exact ⟨o, es, ep, k _ o (Ne.symm hL) ho, r⟩
  · refine (I.hok b u e).stay (fun c v hc q => k c v ?_ q) (fun _ q => q) fun _ _ q => q
    rcases hc with z | z
    · rw [z]; exact nit b u e
    · exact nit c _ z
theorem Inv.tok (I : Inv X pins σ H s) (t : Nat) : Inv X pins σ H { s with toks := t } := I.un (h' := s.heap) (t' := t) Un.refl I.hok
theorem Inv.kept {t' : Nat} (I : Inv X pins σ H s) (k : ∀ b u, s.heap.get? b = some u → h'.get? b = some u) : Inv X pins σ H { s with heap := h', toks := t' } := I.un (Un.kept k) (I.hok.kept k)
theorem Inv.laid {a : Addr} {o : HO} {t' : Nat} (I : Inv X pins σ H s) (k : ∀ b u, s.heap.get? b = some u → h'.get? b = some u) (hp : s.heap.objs.size ≤ a) (new : ObjOk X.prog X.w (upd H a o) h' a o) :
    Inv X pins σ (upd H a o) { s with heap := h', toks := t' } := I.un (Un.laid k hp (I.hok.fresh hp)) (I.hok.laid k hp new)
theorem Inv.write {x e : Addr} {o : HO} {t' : Nat} (I : Inv X pins σ H s) (mu : Mut (H x)) (he : e = x ∨ H e = some (.own x)) (k : ∀ b u, b ≠ e → s.heap.get? b = some u → h'.get? b = some u) (heo : ∃ u, h'.get? e = some u)
    (new : ObjOk X.prog X.w (upd H x o) h' x o) : Inv X pins σ (upd H x o) { s with heap := h', toks := t' } := I.un (Un.write mu he k heo) (I.hok.write mu he k heo new)
theorem Inv.pins_of {pins' : List (Addr × Obj)} (I : Inv X pins σ H s) (h : ∀ p ∈ pins', s.heap.get? p.1 = some p.2 ∧ H p.1 = none ∧ p.1 ≠ X.env.locals ∧ p.1 ∉ X.fs ∧ ∀ v, p.2.data ≠ .cell v) : Inv X pins' σ H s :=
  ⟨I.ok, I.os, I.bare, I.base, I.loc, I.cell, I.free, I.freeC, fun p hp => (List.mem_append.mp hp).elim (fun z => I.pin p (List.mem_append_left _ z)) (h p), I.hok, I.len⟩
theorem nodup_ix {N : List Str} (hN : N.Nodup) {i j : Nat} {x : Str} (a : N[i]? = some x) (b : N[j]? = some x) : i = j := by
  obtain ⟨h1, e1⟩ := List.getElem?_eq_some_iff.mp a
  obtain ⟨h2, e2⟩ := List.getElem?_eq_some_iff.mp b
  exact (List.getElem_inj hN).mp (e1.trans e2.symm)
theorem store_ok2 {M : Model} {A : Around} {E : Value → Shared → Prop} {i : Nat} {x : Str} {v : V} {u : Value} {Q : Unit → Shared → Prop} (I : Inv X pins σ H s) (hN : X.N.Nodup) (hi : X.N[i]? = some x) (hx : Loc X.env.scope x) (r : RelV v u)
    (h : ∀ s', Inv X pins (σ.set i (some v)) H s' → (∃ a, Heap.SameBut a s.heap s'.heap ∧ (a = X.env.locals ∨ X.env.cells.lookup x = some a)) → Q () s') (hf : X.fn x = true ∨ X.env.scope.names.lookup x = some .local := by first | exact .inl rfl | exact .inr rfl | assumption) : wpAny M A (storeName X.env x u) Q E s := by
  obtain ⟨m, hn, hl⟩ := id I.loc
  have hcls : (X.env.scope.kind == .class || (X.env.scope.kind == .module && X.env.locals != X.env.globals)) = false := by rw [I.ok.kind]; rfl
  have hiσ : i < σ.length := by rw [I.len]; exact (List.getElem?_eq_some_iff.mp hi).1
  have cne := I.cne
  have tracked : ∀ {a : Addr} {h' : Heap}, (∃ o, s.heap.get? a = some o ∧ H a = none) → Heap.SameBut a s.heap h' → HOk X.prog X.w H h' := fun {a h'} ha hs b ob e => by
    obtain ⟨_, _, hfree⟩ := ha
    refine (I.hok b ob e).stay (fun c w' hc q => (hs.2 c ?_).trans q) (fun _ q => q) fun _ _ q => q
    rintro rfl
    rcases hc with rfl | hc
    · rw [hfree] at e; cases e
    · rw [hfree] at hc; cases hc
  rcases hx with hk | hk
  · refine wpAny_storeName_local hk hn (fun h' hn' hs => ?_) hcls
    obtain ⟨oL, _, _, hoL, _⟩ := id hn
    refine h _ ⟨I.ok, I.os, I.bare, ⟨fun b o e n hb hx => ?_, fun b o e n hb hx => ?_, I.base.free, fun b o e hx => ?_, I.base.tups, I.base.frzs, I.base.tbls⟩, ⟨_, hn', fun j y v' e1 e2 e3 => ?_⟩, fun y c e => ?_, I.free, I.freeC, fun p hp => ?_, tracked ⟨oL, hoL, I.free⟩ hs, by simpa using I.len⟩ ⟨_, hs, .inl rfl⟩
    · exact (hs.2 b (Nat.ne_of_lt (Nat.lt_of_lt_of_le (Heap.lt_size e) I.ok.above))).trans (I.base.keep b o e n hb hx)
    · obtain ⟨sl, e1⟩ := I.base.slot b o e n hb hx
      exact ⟨sl, (hs.2 b (Nat.ne_of_lt (Nat.lt_of_lt_of_le (Heap.lt_size e) I.ok.above))).trans e1⟩
    · obtain ⟨o', e1⟩ := I.base.there b o e hx
      exact ⟨o', (hs.2 b (Nat.ne_of_lt (Nat.lt_of_lt_of_le (Heap.lt_size e) I.ok.above))).trans e1⟩
    · by_cases hj : j = i
      · subst hj
        rw [hi] at e1; cases e1
        rw [List.getElem?_set_self hiσ] at e2
        cases e2
        exact ⟨u, r, .inl ⟨hk, by simp⟩⟩
      · rw [List.getElem?_set_ne (Ne.symm hj)] at e2
        obtain ⟨u', r', q⟩ := hl j y v' e1 e2 e3
        refine ⟨u', r', ?_⟩
        rcases q with ⟨k, e⟩ | ⟨k, c, e, z⟩
        · refine .inl ⟨k, ?_⟩
          have : y ≠ x := fun e => hj (nodup_ix hN e1 (e ▸ hi))
          simp [this, e]
        · exact .inr ⟨k, c, e, z.sameBut hs (cne y c e)⟩
    · obtain ⟨w', z⟩ := I.cell y c e
      exact ⟨w', z.sameBut hs (cne y c e)⟩
    · obtain ⟨e, n, ne, nf, d⟩ := I.pin p hp
      exact ⟨(hs.2 p.1 ne).trans e, n, ne, nf, d⟩
  · have hfn : X.fn x = true := by
      rcases hf with z | z
      · exact z
      · rw [z] at hk; cases hk
    obtain ⟨c, hc⟩ := I.ok.has x (.inl hk)
    obtain ⟨w', z⟩ := I.cell x c hc
    refine wpAny_storeName_cell I.ok.kind hk hc z (fun h' hc' hs => ?_)
    obtain ⟨oc, hoc, hocd⟩ := id z
    refine h { s with heap := h' } ⟨I.ok, I.os, I.bare, ⟨fun b o e n hb hx => ?_, fun b o e n hb hx => ?_, I.base.free, fun b o e hx => ?_, I.base.tups, I.base.frzs, I.base.tbls⟩, ⟨m, hn.sameBut hs (Ne.symm (cne x c hc)), fun j y v' e1 e2 e3 => ?_⟩, fun y c' e => ?_, I.free, I.freeC, fun p hp => ?_, tracked ⟨oc, hoc, I.freeC x c hc⟩ hs, by simpa using I.len⟩ ⟨c, hs, .inr hc⟩
    · exact (hs.2 b (Nat.ne_of_lt (Nat.lt_of_lt_of_le (Heap.lt_size e) (I.ok.cab x c hfn hc)))).trans (I.base.keep b o e n hb hx)
    · obtain ⟨sl, e1⟩ := I.base.slot b o e n hb hx
      exact ⟨sl, (hs.2 b (Nat.ne_of_lt (Nat.lt_of_lt_of_le (Heap.lt_size e) (I.ok.cab x c hfn hc)))).trans e1⟩
    · obtain ⟨o', e1⟩ := I.base.there b o e hx
      exact ⟨o', (hs.2 b (Nat.ne_of_lt (Nat.lt_of_lt_of_le (Heap.lt_size e) (I.ok.cab x c hfn hc)))).trans e1⟩
    · by_cases hj : j = i
      · subst hj
        rw [hi] at e1; cases e1
        rw [List.getElem?_set_self hiσ] at e2
        cases e2
        exact ⟨u, r, .inr ⟨.inl hk, c, hc, hc'⟩⟩
      · rw [List.getElem?_set_ne (Ne.symm hj)] at e2
        obtain ⟨u', r', q⟩ := hl j y v' e1 e2 e3
        refine ⟨u', r', ?_⟩
        rcases q with q | ⟨k, c', e, z'⟩
        · exact .inl q
        · refine .inr ⟨k, c', e, z'.sameBut hs ?_⟩
          rintro rfl
          exact hj (nodup_ix hN e1 (I.ok.inj _ _ _ e hc ▸ hi))
    · by_cases hcc : c' = c
      · subst hcc; exact ⟨_, hc'⟩
      · obtain ⟨w2, z2⟩ := I.cell y c' e
        exact ⟨w2, z2.sameBut hs hcc⟩
    · obtain ⟨e, n, ne, nf, d⟩ := I.pin p hp
      refine ⟨(hs.2 p.1 ?_).trans e, n, ne, nf, d⟩
      intro q
      rw [q, hoc] at e
      have q' : oc = p.2 := Option.some.inj e
      exact d w' (by rw [← q']; exact hocd)
theorem store_ok {M : Model} {A : Around} {E : Value → Shared → Prop} {i : Nat} {x : Str} {v : V} {u : Value} {Q : Unit → Shared → Prop} (I : Inv X pins σ H s) (hN : X.N.Nodup) (hi : X.N[i]? = some x) (hx : Loc X.env.scope x) (r : RelV v u)
    (h : ∀ s', Inv X pins (σ.set i (some v)) H s' → Q () s') (hf : X.fn x = true ∨ X.env.scope.names.lookup x = some .local := by first | exact .inl rfl | exact .inr rfl | assumption) : wpAny M A (storeName X.env x u) Q E s :=
  store_ok2 I hN hi hx r (fun s' I' _ => h s' I') hf
theorem Inv.call' {s' : Shared} {ch : List Addr} (I : Inv X pins σ H s) (ho : s'.os = s.os) (u : Un (frs X.stack) ch H H' s.heap s'.heap) (hok : HOk X.prog X.w H' s'.heap) (hg : AllBare s'.gens)
    (hch : ∀ b ∈ ch, (b ∈ X.ex ∨ X.s₀.heap.objs.size ≤ b) ∧ b ≠ X.env.locals ∧ (∀ x c, X.env.cells.lookup x = some c → c ≠ b) ∧ ∀ p ∈ X.pn ++ pins, p.1 ≠ b) : Inv X pins σ H' s' := by
  obtain ⟨h', g', d', t', o'⟩ := s'
  have e : o' = s.os := ho
  subst e
  exact I.call (g' := g') (t' := t') (d' := d') u hok hg hch
end
abbrev XK := Value → Option Addr → Hp → Prop
abbrev St := List (Option V)
abbrev VK := V → Hp → Prop
abbrev TE := St → Hp → VK → Prop
abbrev TT := St → Hp → (Bool → Hp → Prop) → Prop
abbrev TA := St → Hp → (List V → Hp → Prop) → Prop
structure Ends where
  nx : St → Hp → Prop
  rt : VK
  bk : St → Hp → Prop := fun _ _ => False
  ct : St → Hp → Prop := fun _ _ => False
abbrev TS := Ends → St → Hp → Prop
def EP (X : Cx) (pins : List (Addr × Obj)) (σ : St) (Q : VK) (u : Value) (s' : Shared) : Prop := ∃ v H', Inv X pins σ H' s' ∧ RelV v u ∧ Q v H'
def TP (X : Cx) (pins : List (Addr × Obj)) (σ : St) (Q : Bool → Hp → Prop) (b : Bool) (s' : Shared) : Prop := ∃ H', Inv X pins σ H' s' ∧ Q b H'
def AP (X : Cx) (pins : List (Addr × Obj)) (σ : St) (Q : List V → Hp → Prop) (us : List Value) (s' : Shared) : Prop := ∃ vs H', Inv X pins σ H' s' ∧ Vals vs us ∧ Q vs H'
def SP (X : Cx) (pins : List (Addr × Obj)) (D : Ends) (f : Flow) (s' : Shared) : Prop :=
  match f with
  | .next => ∃ σ' H', Inv X pins σ' H' s' ∧ D.nx σ' H'
  | .brk => ∃ σ' H', Inv X pins σ' H' s' ∧ D.bk σ' H'
  | .cont => ∃ σ' H', Inv X pins σ' H' s' ∧ D.ct σ' H'
  | .ret u => ∃ v σ' H', Inv X pins σ' H' s' ∧ RelV v u ∧ D.rt v H'
def PE (X : Cx) (e : Expr) (t : TE) : Prop :=
  ∀ (pins : List (Addr × Obj)) (s : Shared) (σ : St) (H : Hp) (Q : VK), Inv X pins σ H s → t σ H Q → wpAny (model X.prog X.w) X.A (eval e X.env) (EP X pins σ Q) X.xe s
def PT (X : Cx) (e : Expr) (t : TT) : Prop :=
  ∀ (pins : List (Addr × Obj)) (s : Shared) (σ : St) (H : Hp) (Q : Bool → Hp → Prop), Inv X pins σ H s → t σ H Q → wpAny (model X.prog X.w) X.A (isTrue e X.env (eval e X.env)) (TP X pins σ Q) X.xe s
def PW (X : Cx) (e : Expr) (t : TT) : Prop :=
  ∀ (whole : Sem Value) (pins : List (Addr × Obj)) (s : Shared) (σ : St) (H : Hp) (Q : Bool → Hp → Prop), Inv X pins σ H s → t σ H Q → wpAny (model X.prog X.w) X.A (isTrue e X.env whole) (TP X pins σ Q) X.xe s
theorem PW.pt {X : Cx} {e : Expr} {t : TT} (h : PW X e t) : PT X e t := h _
def PA (X : Cx) (es : List Expr) (t : TA) : Prop :=
  ∀ (pos : Pos) (pins : List (Addr × Obj)) (s : Shared) (σ : St) (H : Hp) (Q : List V → Hp → Prop), Inv X pins σ H s → t σ H Q → wpAny (model X.prog X.w) X.A (spliced (backTo pos (starEach es X.env))) (AP X pins σ Q) X.xe s
def PS (X : Cx) (st : Stmt) (t : TS) : Prop :=
  ∀ (pins : List (Addr × Obj)) (s : Shared) (σ : St) (H : Hp) (D : Ends), Inv X pins σ H s → t D σ H → wpAny (model X.prog X.w) X.A (exec st X.env) (SP X pins D) X.xe s
def PSs (X : Cx) (st : List Stmt) (t : TS) : Prop :=
  ∀ (pins : List (Addr × Obj)) (s : Shared) (σ : St) (H : Hp) (D : Ends), Inv X pins σ H s → t D σ H → wpAny (model X.prog X.w) X.A (execs st X.env) (SP X pins D) X.xe s
theorem thn {α : Type} {t : Sem α} {Q Q' : α → Shared → Prop} {M : Model} {A : Around} {E : Value → Shared → Prop} {s : Shared} (h : wpAny M A t Q E s) (hQ : ∀ a s, Q a s → Q' a s) : wpAny M A t Q' E s := wpAny_mono h hQ fun _ _ x => x
end L2
namespace L2
open PySem PySem.Spec PyProof.Rows
section
variable {X : Cx}
def tVar (i : Nat) : TE := fun σ H Q => ∃ v, σ[i]? = some (some v) ∧ Q v H
def tC (v : V) : TE := fun _ H Q => Q v H
theorem pe_var {i : Nat} {x : Str} {pos : Pos} (hN : X.N[i]? = some x) (hv : Vis X.env.scope x) (hd : (x == ("__debug__" : Str)) = false := by decide) (hcd : (x == ("__classdict__" : Str)) = false := by decide) : PE X (.Name x pos) (tVar i) := by
  intro pins s σ H Q I h
  obtain ⟨v, e, h⟩ := h
  obtain ⟨m, hn, hl⟩ := I.loc
  obtain ⟨u, r, l⟩ := hl i x v hN e hv
  have fin : EP X pins σ Q u s := ⟨v, H, I, r, h⟩
  rcases l with ⟨hk, hm⟩ | ⟨hk, c, hc, hcell⟩
  · exact wpAny_Name (wpAny_loadName_local I.ok.kind hk hn hm fin) hd
  · rcases hk with hk | hk
    · exact wpAny_Name (wpAny_loadName_cell I.ok.kind hk hc hcell fin) hd
    · exact wpAny_Name (wpAny_loadName_free I.ok.kind hk hc hcell fin hcd) hd
theorem pe_int {i j pos} : PE X (.Constant (.int i) j pos) (tC (.int i)) := fun _ _ _ H _ I h => wpAny_Constant_int ⟨.int i, H, I.tok _, ⟨_, rfl⟩, h⟩
theorem pe_bl {b j pos} : PE X (.Constant (.bool b) j pos) (tC (.bl b)) := fun _ _ _ H _ I h => Constant_bool ⟨.bl b, H, I, rfl, h⟩
theorem pe_non {j pos} : PE X (.Constant .none j pos) (tC .non) := fun _ _ _ H _ I h => Constant_none ⟨.non, H, I, rfl, h⟩
theorem pe_str {x j pos} : PE X (.Constant (.str x) j pos) (tC (.str x)) := fun _ _ _ H _ I h => Calls.Constant_str ⟨.str x, H, I.tok _, ⟨_, rfl⟩, h⟩
def Gl (X : Cx) (x : Str) : Prop := X.env.kindOf x = some .globalImplicit
theorem ld_glob {E : Value → Shared → Prop} {pins : List (Addr × Obj)} {s : Shared} {σ : St} {H : Hp} {x : Str} {u : Value} {pos : Pos} {Q : Value → Shared → Prop} (I : Inv X pins σ H s) (hg : Gl X x) (hm : X.mg x = some u) (h : Q u s)
    (hd : (x == ("__debug__" : Str)) = false := by decide) : wpAny (model X.prog X.w) X.A (eval (.Name x pos) X.env) Q E s :=
  Calls.Name_function_global I.ok.kind hg (Calls.loadGlobal_global (by rw [I.ok.glob]; exact I.mod.glob.keeps I.bk) hm h) hd
theorem ld_blt {E : Value → Shared → Prop} {pins : List (Addr × Obj)} {s : Shared} {σ : St} {H : Hp} {x : Str} {u : Value} {pos : Pos} {Q : Value → Shared → Prop} (I : Inv X pins σ H s) (hg : Gl X x) (hm : X.mg x = none) (hv : bootBuiltins x = some u) (h : Q u s)
    (hn : x ≠ "__name__" := by decide) (hd : (x == ("__debug__" : Str)) = false := by decide) : wpAny (model X.prog X.w) X.A (eval (.Name x pos) X.env) Q E s := by
  obtain ⟨mb, h1, h2⟩ := I.mod.blt
  exact Calls.Name_function_global I.ok.kind hg (Calls.loadGlobal_builtin (by rw [I.ok.glob]; exact I.mod.glob.keeps I.bk) hm (by rw [I.ok.blt]; exact h1.keeps I.bk) ((h2 x hn).trans hv) h) hd
theorem pe_glob {x : Str} {v : V} {u : Value} {pos : Pos} (hg : Gl X x) (hm : X.mg x = some u) (r : RelV v u) (hd : (x == ("__debug__" : Str)) = false := by decide) : PE X (.Name x pos) (tC v) :=
  fun _ _ _ H _ I h => ld_glob I hg hm ⟨v, H, I, r, h⟩ hd
theorem pe_bltn {x : Str} {v : V} {u : Value} {pos : Pos} (hg : Gl X x) (hm : X.mg x = none) (hv : bootBuiltins x = some u) (r : RelV v u) (hn : x ≠ "__name__" := by decide) (hd : (x == ("__debug__" : Str)) = false := by decide) : PE X (.Name x pos) (tC v) :=
  fun _ _ _ H _ I h => ld_blt I hg hm hv ⟨v, H, I, r, h⟩ hn hd
variable {a b : Expr} {ta tb : TE} {pos : Pos}
def tB (t : TE) : TT := fun σ H Q => t σ H fun x H1 => ∃ c, x = .bl c ∧ Q c H1
theorem pt_val {e : Expr} {t : TE} (h : PE X e t) (he : ∀ whole, isTrue e X.env whole = (do let v ← whole; standAt e.pos; holding [v] (truthy v)) := by intro _; rfl) : PT X e (tB t) := by
  intro pins s σ H Q I hw
  refine isTrue_plain (thn (h pins s σ H _ I hw) fun v s1 ⟨x, H1, I1, r1, q1⟩ => ?_) (he _)
  obtain ⟨d, rfl, q⟩ := q1
  cases r1
  exact wpAny_truthy_bool ⟨H1, I1, q⟩
variable {tA tB' : TT} {rest : List Expr}
def tOr (t u : TT) : TT := fun σ H Q => t σ H fun c H1 => if c = true then Q true H1 else u σ H1 Q
def tNot (t : TT) : TT := fun σ H Q => t σ H fun c H1 => Q (!c) H1
theorem pw_or1 (ha : PT X a tA) : PW X (.BoolOp .Or [a] pos) tA := by
  intro wh pins s σ H Q I h
  refine isTrue_or (thn (ha pins s σ H Q I h) fun c s1 e => ?_)
  cases c with
  | false => exact isTrue_or_nil e
  | true => exact e
theorem pw_or (ha : PT X a tA) (hb : PW X (.BoolOp .Or (b :: rest) pos) tB') : PW X (.BoolOp .Or (a :: b :: rest) pos) (tOr tA tB') := by
  intro wh pins s σ H Q I h
  refine isTrue_or (thn (ha pins s σ H _ I h) fun c s1 ⟨H1, I1, q1⟩ => ?_)
  cases c with
  | true => exact ⟨H1, I1, q1⟩
  | false => exact hb wh pins s1 σ H1 Q I1 q1
theorem pt_not (ha : PT X a tA) : PT X (.UnaryOp .Not a pos) (tNot tA) := by
  intro pins s σ H Q I h
  exact isTrue_not (ha pins s σ H (fun c H1 => Q (!c) H1) I h)
def tAndV (ta tb : TE) : TE := fun σ H Q => ta σ H fun x H1 => ∃ c, x = .bl c ∧ if c = true then tb σ H1 Q else Q (.bl false) H1
def tNotV (ta : TE) : TE := fun σ H Q => ta σ H fun x H1 => ∃ c, x = .bl c ∧ Q (.bl (!c)) H1
theorem pe_one {op} {t : TE} (h : PE X a t) : PE X (.BoolOp op [a] pos) t := fun pins s σ H Q I hw => BoolOp_one (h pins s σ H Q I hw)
theorem pe_and (ha : PE X a ta) (hb : PE X (.BoolOp .And (b :: rest) pos) tb) : PE X (.BoolOp .And (a :: b :: rest) pos) (tAndV ta tb) := by
  intro pins s σ H Q I h
  refine BoolOp_and (thn (ha pins s σ H _ I h) fun v s1 ⟨x, H1, I1, r1, q1⟩ => ?_)
  obtain ⟨c, rfl, q1⟩ := q1
  cases r1
  refine wpAny_truthy_bool ?_
  cases c with
  | true => exact hb pins s1 σ H1 Q I1 q1
  | false => exact ⟨.bl false, H1, I1, rfl, q1⟩
theorem pe_not (ha : PE X a ta) : PE X (.UnaryOp .Not a pos) (tNotV ta) := by
  intro pins s σ H Q I h
  refine UnaryOp_ (thn (ha pins s σ H _ I h) fun v s1 ⟨x, H1, I1, r1, q1⟩ => ?_)
  obtain ⟨c, rfl, q1⟩ := q1
  cases r1
  exact not_of (wpAny_truthy_bool ⟨.bl (!c), H1, I1, rfl, q1⟩)
end
end L2
namespace L2
open PySem PySem.Spec PyProof.Rows
def SqL (K : PySem.W.Frag) (H : Hp) (a : Addr) (xs : List V) : Prop :=
  Rd H a (.lst xs) ∨
    ∃ (o : Obj) (its : Array Value) (n : Nat), K.lookup a = some o ∧ o.cls = .type "list" ∧ o.dict = none ∧ o.data = .seq its n ∧ its.size ≤ sizeLine ∧ Vals xs its.toList
def SqT (K : PySem.W.Frag) (H : Hp) (a : Addr) (xs : List V) : Prop :=
  Rd H a (.tup xs) ∨
    ∃ (o : Obj) (its : Array Value) (n : Nat), K.lookup a = some o ∧ o.cls = .type "tuple" ∧ o.data = .seq its n ∧ its.size ≤ sizeLine ∧ Vals xs its.toList
def absV : Value → Option V
  | .none => some .non
  | .bool b => some (.bl b)
  | .int i _ => some (.int i)
  | .str x _ => some (.str x)
  | .bytes b _ => some (.byt b)
  | .float b _ => some (.flt b)
  | .ref a => some (.ref a)
  | .type n => some (.ty n)
  | _ => none
theorem RelV.abs {x : V} {u : Value} (r : RelV x u) : absV u = some x := by
  cases x with
  | non => cases r; rfl
  | bl _ => cases r; rfl
  | int _ => obtain ⟨t, rfl⟩ := r; rfl
  | str _ => obtain ⟨t, rfl⟩ := r; rfl
  | byt _ => obtain ⟨t, rfl⟩ := r; rfl
  | flt _ => obtain ⟨t, rfl⟩ := r; rfl
  | ref _ => cases r; rfl
  | ty _ => cases r; rfl
theorem RelV.inj {x y : V} {u : Value} (r : RelV x u) (q : RelV y u) : x = y := Option.some.inj (r.abs.symm.trans q.abs)
theorem Vals.inj : ∀ {xs ys : List V} {us : List Value}, Vals xs us → Vals ys us → xs = ys
  | _, _, _, .nil, .nil => rfl
  | _, _, _, .cons r t, .cons r' t' => by rw [r.inj r', Vals.inj t t']
section
variable {X : Cx} {pins : List (Addr × Obj)} {σ : St} {H : Hp} {s : Shared} {a : Addr} {xs ys : List V}
theorem SqL.of {K : PySem.W.Frag} (h : H a = some (.lst xs)) : SqL K H a xs := .inl (.inl h)
theorem SqT.of {K : PySem.W.Frag} (h : H a = some (.tup xs)) : SqT K H a xs := .inl (.inl h)
theorem Inv.list (I : Inv X pins σ H s) (h : SqL X.K H a xs) : ∃ its : List Value, Vals xs its ∧ PlainL s.heap a its.toArray ∧ xs.length ≤ sizeLine := by
  rcases h with h | ⟨o, its, n, hk, hc, hd, hs, hz, r⟩
  · obtain ⟨z, its, n, r, e⟩ := h.ok I.hok
    exact ⟨its, r, ⟨_, n, e, rfl, rfl, rfl⟩, z⟩
  · refine ⟨its.toList, r, ⟨o, n, I.kIn a o hk, hc, hd, by simpa using hs⟩, ?_⟩
    have e := r.length
    simp only [Array.length_toList] at e
    omega
theorem Inv.tuple (I : Inv X pins σ H s) (h : SqT X.K H a xs) : ∃ its : List Value, Vals xs its ∧ IsTup s.heap a its.toArray ∧ xs.length ≤ sizeLine := by
  rcases h with h | ⟨o, its, n, hk, hc, hs, hz, r⟩
  · obtain ⟨z, its, r, p⟩ := h.ok I.hok
    exact ⟨its, r, p, z⟩
  · refine ⟨its.toList, r, ⟨o, I.kIn a o hk, hc, n, by simpa using hs⟩, ?_⟩
    have e := r.length
    simp only [Array.length_toList] at e
    omega
theorem Inv.list_inj (I : Inv X pins σ H s) (h : SqL X.K H a xs) (h' : SqL X.K H a ys) : xs = ys := by
  obtain ⟨its, r, ⟨o, n, e, _, _, d⟩, _⟩ := I.list h
  obtain ⟨its', r', ⟨o', n', e', _, _, d'⟩, _⟩ := I.list h'
  rw [e] at e'; cases e'
  rw [d] at d'
  injection d' with d1 _
  have : its = its' := by simpa using congrArg Array.toList d1
  subst this
  exact r.inj r'
theorem Inv.tuple_inj (I : Inv X pins σ H s) (h : SqT X.K H a xs) (h' : SqT X.K H a ys) : xs = ys := by
  obtain ⟨its, r, ⟨o, e, _, n, d⟩, _⟩ := I.tuple h
  obtain ⟨its', r', ⟨o', e', _, n', d'⟩, _⟩ := I.tuple h'
  rw [e] at e'; cases e'
  rw [d] at d'
  injection d' with d1 _
  have : its = its' := by simpa using congrArg Array.toList d1
  subst this
  exact r.inj r'
end
abbrev Cx.wish (X : Cx) (E : Value → Shared → Prop) : Cx := { X with xe := E }
abbrev Cx.nox (X : Cx) : Cx := X.wish fun _ _ => False
theorem Cx.Ok.wish {X : Cx} (ok : X.Ok) (E : Value → Shared → Prop) : (X.wish E).Ok :=
  ⟨ok.mod, ok.kind, ok.glob, ok.blt, ok.above, ok.inj, ok.has, ok.cab, ok.hd, ok.frames, ok.stk, ok.exf, ok.bs, ok.bsz, ok.noex, ok.exfs, ok.funs, ok.frf⟩
theorem Cx.Ok.unwish {X : Cx} {E : Value → Shared → Prop} (ok : (X.wish E).Ok) : X.Ok :=
  ⟨ok.mod, ok.kind, ok.glob, ok.blt, ok.above, ok.inj, ok.has, ok.cab, ok.hd, ok.frames, ok.stk, ok.exf, ok.bs, ok.bsz, ok.noex, ok.exfs, ok.funs, ok.frf⟩
section
variable {X : Cx} {pins : List (Addr × Obj)} {σ : St} {H : Hp} {s : Shared} {E : Value → Shared → Prop}
theorem Inv.wish (I : Inv X pins σ H s) (E : Value → Shared → Prop) : Inv (X.wish E) pins σ H s := ⟨I.ok.wish E, I.os, I.bare, I.base, I.loc, I.cell, I.free, I.freeC, I.pin, I.hok, I.len⟩
theorem Inv.unwish (I : Inv (X.wish E) pins σ H s) : Inv X pins σ H s := ⟨I.ok.unwish, I.os, I.bare, I.base, I.loc, I.cell, I.free, I.freeC, I.pin, I.hok, I.len⟩
theorem SP.unwish {D : Ends} {f : Flow} {s' : Shared} (h : SP (X.wish E) pins D f s') : SP X pins D f s' := by
  cases f with
  | next => obtain ⟨σ', H', I, q⟩ := h; exact ⟨σ', H', I.unwish, q⟩
  | brk => obtain ⟨σ', H', I, q⟩ := h; exact ⟨σ', H', I.unwish, q⟩
  | cont => obtain ⟨σ', H', I, q⟩ := h; exact ⟨σ', H', I.unwish, q⟩
  | ret u => obtain ⟨v, σ', H', I, r, q⟩ := h; exact ⟨v, σ', H', I.unwish, r, q⟩
theorem PSs.nox {st : List Stmt} {t : TS} (h : PSs X.nox st t) : PSs X st t := fun pins s σ H D I hw =>
  wpAny_mono (h pins s σ H D (I.wish _) hw) (fun _ _ q => q.unwish) fun _ _ z => False.elim z
end
section
variable {X : Cx} {st : Stmt} {rest : List Stmt} {t u : TS} {e : Expr} {te : TE} {pos : Pos}
def tNext : TS := fun D σ H => D.nx σ H
def tSeq (t u : TS) : TS := fun D σ H => t { D with nx := u D } σ H
theorem pss_nil : PSs X [] tNext := fun _ _ σ H _ I h => wpAny_execs_nil ⟨σ, H, I, h⟩
theorem pss_cons (h1 : PS X st t) (h2 : PSs X rest u) : PSs X (st :: rest) (tSeq t u) := by
  intro pins s σ H D I h
  refine wpAny_execs_cons (thn (h1 pins s σ H { D with nx := u D } I h) fun f s1 q => ?_)
  cases f with
  | next =>
    obtain ⟨σ', H', I', q⟩ := q
    exact h2 pins s1 σ' H' D I' q
  | ret v => exact q
  | brk => exact q
  | cont => exact q
theorem pss_one (h1 : PS X st t) : PSs X [st] t := by
  intro pins s σ H D I h
  refine wpAny_execs_cons (thn (h1 pins s σ H D I h) fun f s1 q => ?_)
  cases f with
  | next => exact wpAny_execs_nil q
  | ret v => exact q
  | brk => exact q
  | cont => exact q
theorem Inv.quiet {pins : List (Addr × Obj)} {σ : St} {H : Hp} {s : Shared} (I : Inv X pins σ H s) : interactive X.env = false := by simp [interactive, I.ok.kind]
def tDrop (te : TE) : TS := fun D σ H => te σ H fun _ H1 => D.nx σ H1
theorem ps_expr (he : PE X e te) (hs : swapsWith e none pos.line X.env = pure false := by rfl) : PS X (.Expr e pos) (tDrop te) := by
  intro pins s σ H D I h
  exact wpAny_Expr_any (thn (he pins s σ H _ I h) fun v s1 ⟨x, H1, I1, r1, q1⟩ => ⟨σ, H1, I1, q1⟩) I.quiet hs
def tRet (te : TE) : TS := fun D σ H => te σ H D.rt
theorem ps_ret (he : PE X e te) : PS X (.Return (some e) pos) (tRet te) := by
  intro pins s σ H D I h
  exact wpAny_Return_some (thn (he pins s σ H _ I h) fun v s1 ⟨x, H1, I1, r1, q1⟩ => ⟨x, σ, H1, I1, r1, q1⟩)
def tIfS (c : TT) (t u : TS) : TS := fun D σ H => c σ H fun b H1 => if b = true then t D σ H1 else u D σ H1
theorem ps_if {c : Expr} {a b : List Stmt} {tc : TT} (hc : PT X c tc) (ha : PSs X a t) (hb : PSs X b u) : PS X (.If c a b pos) (tIfS tc t u) := by
  intro pins s σ H D I h
  refine wpAny_If (thn (hc pins s σ H _ I h) fun d s1 ⟨H1, I1, q1⟩ => ?_)
  cases d with
  | true => exact ha pins s1 σ H1 D I1 q1
  | false => exact hb pins s1 σ H1 D I1 q1
def tNever : TS := fun _ _ _ => False
theorem ps_never : PS X st tNever := fun _ _ _ _ _ _ h => h.elim
theorem pss_never {sts : List Stmt} : PSs X sts tNever := fun _ _ _ _ _ _ h => h.elim
end
abbrev TG := V → St → Hp → (St → Hp → Prop) → Prop
abbrev TGs := List V → St → Hp → (St → Hp → Prop) → Prop
def PG (X : Cx) (target : Expr) (t : TG) : Prop :=
  ∀ (pins : List (Addr × Obj)) (s : Shared) (σ : St) (H : Hp) (v : V) (u : Value) (Q : St → Hp → Prop), Inv X pins σ H s → RelV v u → t v σ H Q →
    wpAny (model X.prog X.w) X.A (assign target X.env u) (fun _ s' => ∃ σ' H', Inv X pins σ' H' s' ∧ Q σ' H') X.xe s
def PGs (X : Cx) (ts : List Expr) (t : TGs) : Prop :=
  ∀ (pins : List (Addr × Obj)) (s : Shared) (σ : St) (H : Hp) (vs : List V) (us : List Value) (Q : St → Hp → Prop), Inv X pins σ H s → Vals vs us → t vs σ H Q →
    wpAny (model X.prog X.w) X.A (assignInOrder ((assignEach ts X.env).map (·.2)) us) (fun _ s' => ∃ σ' H', Inv X pins σ' H' s' ∧ Q σ' H') X.xe s
section
variable {X : Cx} {pos : Pos}
def gName (i : Nat) : TG := fun v σ H Q => Q (σ.set i (some v)) H
theorem pg_name {i : Nat} {x : Str} (hN : X.N.Nodup) (hi : X.N[i]? = some x) (hx : Loc X.env.scope x) (hf : X.fn x = true ∨ X.env.scope.names.lookup x = some .local := by first | exact .inl rfl | exact .inr rfl | assumption) : PG X (.Name x pos) (gName i) := by
  intro pins s σ H v u Q I r h
  exact wpAny_assign_Name (store_ok I hN hi hx r (fun s' I' => ⟨_, H, I', h⟩) hf)
def gNil : TGs := fun vs σ H Q => vs = [] ∧ Q σ H
def gCons (t : TG) (u : TGs) : TGs := fun vs σ H Q => ∃ v r, vs = v :: r ∧ t v σ H fun σ' H' => u r σ' H' Q
theorem pgs_nil : PGs X [] gNil := by
  intro pins s σ H vs us Q I r h
  obtain ⟨e, h⟩ := h
  subst e
  cases r
  exact assignInOrder_nil ⟨σ, H, I, h⟩
theorem pgs_cons {e : Expr} {es : List Expr} {t : TG} {u : TGs} (h1 : PG X e t) (h2 : PGs X es u)
    (hs : (assignEach (e :: es) X.env).map (·.2) = assign e X.env :: (assignEach es X.env).map (·.2) := by rfl) : PGs X (e :: es) (gCons t u) := by
  intro pins s σ H vs us Q I r h
  obtain ⟨v, vr, e1, h⟩ := h
  subst e1
  cases r with
  | cons r rr =>
    rw [hs]
    refine assignInOrder_cons (thn (h1 pins s σ H _ _ _ I r h) fun _ s1 ⟨σ1, H1, I1, q1⟩ => ?_)
    exact h2 pins s1 σ1 H1 _ _ Q I1 rr q1
def gTup (K : PySem.W.Frag) (n : Nat) (t : TGs) : TG := fun v σ H Q => ∃ a xs, v = .ref a ∧ SqT K H a xs ∧ xs.length = n ∧ t xs σ H Q
theorem pg_tup {es : List Expr} {k : Nat} {t : TGs} {n : Nat} (hc : X.calm = true) (h : PGs X es t)
    (hn : (assignEach es X.env).length = n := by rfl) (hst : (assignEach es X.env).findIdx? (·.1) = none := by rfl) : PG X (.Tuple es k pos) (gTup X.K n t) := by
  intro pins s σ H v u Q I r hw
  obtain ⟨a, xs, e1, hq, hl, hw⟩ := hw
  subst e1
  cases r
  obtain ⟨its, rv, ht, hz⟩ := I.tuple hq
  refine assign_Tuple_tuple (I.ok.hd hc) ht (by simp [hn, ← hl, rv.length]) hst fun h' hx => ?_
  have I1 : Inv X pins σ H { s with heap := h' } := I.kept (t' := s.toks) fun b o e => hx b o (Nat.ne_of_lt (Heap.lt_size e)) e
  exact h pins _ σ H xs _ Q I1 (by simpa using rv) hw
def tAsg (te : TE) (g : TG) : TS := fun D σ H => te σ H fun x H1 => g x σ H1 D.nx
theorem ps_asg {tg e : Expr} {te : TE} {g : TG} (he : PE X e te) (hg : PG X tg g) (hs : swapsWithSole [tg] e pos.line X.env = pure false := by rfl) (hw : swappedStores [tg] e X.env = pure none := by rfl)
    (h1 : (assignEach [tg] X.env).map (·.2) = [assign tg X.env] := by rfl) : PS X (.Assign [tg] e pos) (tAsg te g) := by
  intro pins s σ H D I h
  refine wpAny_Assign_stores (thn (he pins s σ H _ I h) fun v s1 ⟨x, H1, I1, r1, q1⟩ => ?_) hs hw
  rw [h1]
  exact thn (hg pins s1 σ H1 x v _ I1 r1 q1) fun _ s2 q => q
theorem ps_set {i : Nat} {x : Str} {e : Expr} {te : TE} {pos' : Pos} (hN : X.N.Nodup) (hi : X.N[i]? = some x) (hx : Loc X.env.scope x) (he : PE X e te) (hs : swapsWith e (some (.Name x pos')) pos.line X.env = pure false := by rfl) (hf : X.fn x = true ∨ X.env.scope.names.lookup x = some .local := by first | exact .inl rfl | exact .inr rfl | assumption) :
    PS X (.Assign [.Name x pos'] e pos) (tAsg te (gName i)) := by
  intro pins s σ H D I h
  refine wpAny_Assign_Name (thn (he pins s σ H _ I h) fun v s1 ⟨y, H1, I1, r1, q1⟩ => ?_) hs
  exact store_ok I1 hN hi hx r1 (fun s2 I2 => ⟨_, H1, I2, q1⟩) hf
end
section
variable {X : Cx} {pos : Pos}
def tWhile (c : TT) (tb : TS) : TS := fun D σ H => ∃ W : Nat → St → Hp → Prop, (∃ m, W m σ H) ∧ ∀ m σ H, W m σ H →
  c σ H fun b H1 => if b = true then ∃ N : St → Hp → Prop, (∀ σ' H', N σ' H' → ∃ m', m' < m ∧ W m' σ' H') ∧ tb { D with nx := N, ct := N, bk := D.nx } σ H1 else D.nx σ H1
theorem ps_while {c : Expr} {body : List Stmt} {tc : TT} {tb : TS} (hp : PassesOwn (model X.prog X.w) X.A X.env X.xe) (hc : PT X c tc) (hb : PSs X body tb) : PS X (.While c body [] pos) (tWhile tc tb) := by
  intro pins s σ H D I h
  obtain ⟨W, ⟨m0, w0⟩, turn⟩ := h
  refine wpAny_While (codeAny_whileLoop (fun n s' => ∃ σ' H', Inv X pins σ' H' s' ∧ W n σ' H') ?_ m0 ⟨σ, H, I, w0⟩)
  rintro n s1 ⟨σ1, H1, I1, w1⟩
  refine wpAny_passesOwn hp (thn (hc pins s1 σ1 H1 _ I1 (turn n σ1 H1 w1)) fun b s2 ⟨H2, I2, q2⟩ => ?_)
  cases b with
  | true =>
    obtain ⟨N, hN, q2⟩ := q2
    rw [if_pos rfl]
    refine wpAny_passesOwn hp (thn (hb pins s2 σ1 H2 _ I2 q2) fun f s3 q3 => ?_)
    cases f with
    | next =>
      obtain ⟨σ3, H3, I3, n3⟩ := q3
      obtain ⟨m', hm, w3⟩ := hN σ3 H3 n3
      exact ⟨m', hm, σ3, H3, I3, w3⟩
    | cont =>
      obtain ⟨σ3, H3, I3, n3⟩ := q3
      obtain ⟨m', hm, w3⟩ := hN σ3 H3 n3
      exact ⟨m', hm, σ3, H3, I3, w3⟩
    | brk => exact q3
    | ret v => exact q3
  | false =>
    rw [if_neg Bool.false_ne_true]
    exact wpAny_execs_nil ⟨σ1, H2, I2, q2⟩
end
structure It where
  go : Nat → Hp → Prop
  yld : Nat → Hp → V → Hp → Prop
  stop : Nat → Hp → Prop
def FpOk (X : Cx) (pins : List (Addr × Obj)) (H : Hp) (b : Addr) : Prop :=
  H b = none ∧ b ≠ X.env.locals ∧ b ∉ X.fs ∧ (b ∈ X.ex ∨ X.s₀.heap.objs.size ≤ b) ∧ (∀ x c, X.env.cells.lookup x = some c → c ≠ b) ∧ ∀ p ∈ X.pn ++ pins, p.1 ≠ b
theorem Inv.fpOk {X : Cx} {pins : List (Addr × Obj)} {σ : St} {H H' : Hp} {s : Shared} {b : Addr} (I : Inv X pins σ H s) (hb : s.heap.objs.size ≤ b) (hn : H' b = none) : FpOk X pins H' b := by
  refine ⟨hn, Nat.ne_of_gt (Nat.lt_of_lt_of_le I.lt hb), I.nofs hb, .inr (Nat.le_trans I.sz hb), fun x c e z => ?_, fun p hp z => ?_⟩
  · obtain ⟨v, q⟩ := I.cell x c e
    exact absurd (Nat.lt_of_lt_of_le q.lt (by rw [z]; exact hb)) (Nat.lt_irrefl _)
  · exact absurd (Nat.lt_of_lt_of_le (Heap.lt_size (I.pin p hp).1) (by rw [z]; exact hb)) (Nat.lt_irrefl _)
structure Turn (P : Program) (w : World) (K : PySem.W.Frag) (tg : Expr) (J : It) (fp : List Addr) (it : Addr) (tn : Nat → Heap → Prop) : Prop where
  mem : it ∈ fp
  obj : ∀ i h, tn i h → ∀ b ∈ fp, ∃ o, h.get? b = some o ∧ ∀ v, o.data ≠ .cell v
  keep : ∀ i h h', tn i h → (∀ b ∈ fp, ∀ o, h.get? b = some o → h'.get? b = some o) → tn i h'
  item : ∀ (X : Cx), X.prog = P → X.w = w → X.K = K → X.calm = true → ∀ (i : Nat) (pins : List (Addr × Obj)) (s : Shared) (σ : St) (H : Hp) (E : Value → Shared → Prop), Inv X pins σ H s → (∀ b ∈ fp, FpOk X pins H b) → tn i s.heap → J.go i H →
    wpAny (model P w) X.A (pyNext (.ref it)) (fun r s1 => ∃ u, r = some u ∧
      wpAny (model P w) X.A (letOwnedTupleGo tg (.ref it) u) (fun _ s2 => ∃ x H', Inv X pins σ H' s2 ∧ RelV x u ∧ J.yld i H x H' ∧ tn (i + 1) s2.heap ∧ ∀ b ∈ fp, H' b = none) E s1) E s
  done : ∀ (X : Cx), X.prog = P → X.w = w → X.K = K → X.calm = true → ∀ (i : Nat) (pins : List (Addr × Obj)) (s : Shared) (σ : St) (H : Hp) (E : Value → Shared → Prop), Inv X pins σ H s → (∀ b ∈ fp, FpOk X pins H b) → tn i s.heap → J.stop i H →
    wpAny (model P w) X.A (pyNext (.ref it)) (fun r s1 => r = none ∧ Inv X pins σ H s1) E s
  self : ∀ (A : Around) (i : Nat) (s : Shared) (Q : Value → Shared → Prop) (E : Value → Shared → Prop), tn i s.heap → Q (.ref it) s → wpAny (model P w) A (pyIter (.ref it)) Q E s
abbrev TI := St → Hp → (It → Hp → Prop) → Prop
def PIE (X : Cx) (pins : List (Addr × Obj)) (σ : St) (tg : Expr) (R : It → Hp → Prop) (itv : Value) (s2 : Shared) : Prop :=
  ∃ (it : Addr) (fp : List Addr) (tn : Nat → Heap → Prop) (J : It) (H' : Hp), itv = .ref it ∧ Inv X pins σ H' s2 ∧ Turn X.prog X.w X.K tg J fp it tn ∧ tn 0 s2.heap ∧ (∀ b ∈ fp, FpOk X pins H' b) ∧ R J H'
def PI (X : Cx) (tg iter : Expr) (wi : TI) : Prop :=
  ∀ (pins : List (Addr × Obj)) (s : Shared) (σ : St) (H : Hp) (R : It → Hp → Prop), Inv X pins σ H s → wi σ H R →
    wpAny (model X.prog X.w) X.A (eval iter X.env) (fun v s1 => wpAny (model X.prog X.w) X.A (pyIter v) (PIE X pins σ tg R) X.xe s1) X.xe s
theorem go_of {M : Model} {A : Around} {E : Value → Shared → Prop} {s : Shared} {tg : Expr} {it : Addr} {u : Value} {o : Obj} {n : String} {vs : Array Value} {Q : Unit → Shared → Prop} (ho : s.heap.get? it = some o) (hc : o.cls = .type n) (hd : o.data = .fields vs)
    (hn : ["enumerate", "zip", "dict_itemiterator", "dict_reverseitemiterator", "odict_iterator", "itertools.zip_longest", "itertools.pairwise"].contains n = false) (hQ : Q () s) : wpAny M A (letOwnedTupleGo tg (.ref it) u) Q E s := by
  unfold letOwnedTupleGo
  cases tg <;> first
    | exact wpAny_pure hQ
    | (cases u <;> first
        | exact wpAny_pure hQ
        | (refine wpAny_bind (wpAny_load ho ?_)
           rw [hc, hd]
           show wpAny M A (if (["enumerate", "zip", "dict_itemiterator", "dict_reverseitemiterator", "odict_iterator", "itertools.zip_longest", "itertools.pairwise"].contains n && vs[0]? == some (rawInt _)) = true then _ else _) Q E s
           rw [if_neg (by intro h; rw [hn, Bool.false_and] at h; cases h)]
           exact wpAny_pure hQ))
def Itl (K : PySem.W.Frag) (a : Addr) : It :=
  ⟨fun i H => ∃ xs x, SqL K H a xs ∧ xs[i]? = some x, fun i H x H' => H' = H ∧ ∀ xs, SqL K H a xs → xs[i]? = some x, fun i H => ∃ xs, SqL K H a xs ∧ xs.length ≤ i⟩
def Itt (K : PySem.W.Frag) (a : Addr) : It :=
  ⟨fun i H => ∃ xs x, SqT K H a xs ∧ xs[i]? = some x, fun i H x H' => H' = H ∧ ∀ xs, SqT K H a xs → xs[i]? = some x, fun i H => ∃ xs, SqT K H a xs ∧ xs.length ≤ i⟩
theorem turn_list {P : Program} {w : World} {K : PySem.W.Frag} {tg : Expr} (a it : Addr) : Turn P w K tg (Itl K a) [it] it (fun i h => h.IsListIter it a i) where
  mem := by simp
  obj := fun i h st b hb => by
    have e : b = it := by simpa using hb
    subst e
    obtain ⟨o, e, c, d⟩ := st
    exact ⟨o, e, fun v z => by rw [d] at z; cases z⟩
  keep := fun i h h' st k => st.at fun o e => k it (by simp) o e
  item := by
    intro X hP hw hK hc i pins s σ H E I hf st hg
    subst hP hw hK
    obtain ⟨xs, x, hq, hx⟩ := hg
    obtain ⟨its, rv, p, hz⟩ := I.list hq
    obtain ⟨u, hu, ru⟩ := rv.get hx
    obtain ⟨f0, f1, f2, f3, f4, f5⟩ := hf it (by simp)
    refine wpAny_pyNext_list_item st p.isList (x := u) (by simpa using hu) fun h' st' sb => ?_
    have I1 : Inv X pins σ H { s with heap := h' } := I.turned (t' := s.toks) (fun b o hb e => (sb.2 b hb).trans e) f0 f1 f3 f4 f5
    obtain ⟨o, e, c, d⟩ := id st'
    exact ⟨u, rfl, go_of (s := { s with heap := h' }) e c d (by decide) ⟨x, H, I1, ru, ⟨rfl, fun ys hy => by rw [I.list_inj hy hq]; exact hx⟩, st', fun b hb => (hf b hb).1⟩⟩
  done := by
    intro X hP hw hK hc i pins s σ H E I hf st hg
    subst hP hw hK
    obtain ⟨xs, hq, hx⟩ := hg
    obtain ⟨its, rv, p, hz⟩ := I.list hq
    obtain ⟨f0, f1, f2, f3, f4, f5⟩ := hf it (by simp)
    have hl := rv.length
    exact wpAny_pyNext_list_end (I.ok.hd hc) st p.isList (by simp; omega) fun h' eb => ⟨rfl, I.turned (t' := s.toks) (fun b o hb e => eb b o hb e) f0 f1 f3 f4 f5⟩
  self := fun _ _ _ _ _ st h => wpAny_pyIter_listiter st h
theorem turn_tuple {P : Program} {w : World} {K : PySem.W.Frag} {tg : Expr} (a it : Addr) : Turn P w K tg (Itt K a) [it] it (fun i h => h.IsTupleIter it a i) where
  mem := by simp
  obj := fun i h st b hb => by
    have e : b = it := by simpa using hb
    subst e
    obtain ⟨o, e, c, d⟩ := st
    exact ⟨o, e, fun v z => by rw [d] at z; cases z⟩
  keep := fun i h h' st k => st.at fun o e => k it (by simp) o e
  item := by
    intro X hP hw hK hc i pins s σ H E I hf st hg
    subst hP hw hK
    obtain ⟨xs, x, hq, hx⟩ := hg
    obtain ⟨its, rv, p, hz⟩ := I.tuple hq
    obtain ⟨u, hu, ru⟩ := rv.get hx
    obtain ⟨f0, f1, f2, f3, f4, f5⟩ := hf it (by simp)
    refine wpAny_pyNext_tuple_item st (show s.heap.IsTuple a its.toArray from p) (x := u) (by simpa using hu) fun h' st' sb => ?_
    have I1 : Inv X pins σ H { s with heap := h' } := I.turned (t' := s.toks) (fun b o hb e => (sb.2 b hb).trans e) f0 f1 f3 f4 f5
    obtain ⟨o, e, c, d⟩ := id st'
    exact ⟨u, rfl, go_of (s := { s with heap := h' }) e c d (by decide) ⟨x, H, I1, ru, ⟨rfl, fun ys hy => by rw [I.tuple_inj hy hq]; exact hx⟩, st', fun b hb => (hf b hb).1⟩⟩
  done := by
    intro X hP hw hK hc i pins s σ H E I hf st hg
    subst hP hw hK
    obtain ⟨xs, hq, hx⟩ := hg
    obtain ⟨its, rv, p, hz⟩ := I.tuple hq
    obtain ⟨f0, f1, f2, f3, f4, f5⟩ := hf it (by simp)
    have hl := rv.length
    exact wpAny_pyNext_tuple_end (I.ok.hd hc) st (show s.heap.IsTuple a its.toArray from p) (by simp; omega) fun h' eb => ⟨rfl, I.turned (t' := s.toks) (fun b o hb e => eb b o hb e) f0 f1 f3 f4 f5⟩
  self := fun _ _ _ _ _ st h => wpAny_pyIter_tupleiter st h
end L2
namespace L2
open PySem PySem.Spec PyProof.Rows
section
variable {X : Cx} {tg : Expr}
def iList (K : PySem.W.Frag) (tl : TE) : TI := fun σ H R => tl σ H fun x H1 => ∃ a, x = .ref a ∧ (∃ xs, SqL K H1 a xs) ∧ R (Itl K a) H1
def iTup (K : PySem.W.Frag) (tl : TE) : TI := fun σ H R => tl σ H fun x H1 => ∃ a, x = .ref a ∧ (∃ xs, SqT K H1 a xs) ∧ R (Itt K a) H1
theorem pi_list {l : Expr} {tl : TE} (hl : PE X l tl) : PI X tg l (iList X.K tl) := by
  intro pins s σ H R I h
  refine thn (hl pins s σ H _ I h) fun v s1 ⟨x, H1, I1, r1, q1⟩ => ?_
  obtain ⟨a, e, ⟨xs, hq⟩, q⟩ := q1
  subst e
  cases r1
  obtain ⟨its, rv, p, hz⟩ := I1.list hq
  refine wpAny_pyIter_list p.isList ?_
  refine ⟨s1.heap.objs.size, [s1.heap.objs.size], _, _, H1, rfl, I1.kept (t' := s1.toks) fun b o e => Heap.get?_push_of_some _ e, turn_list a _, ⟨_, Heap.get?_push_size _ rfl, rfl, rfl⟩, fun b hb => ?_, q⟩
  have e : b = s1.heap.objs.size := by simpa using hb
  subst e
  exact I1.fpOk (Nat.le_refl _) (I1.hok.fresh (Nat.le_refl _))
theorem pi_tup {l : Expr} {tl : TE} (hl : PE X l tl) : PI X tg l (iTup X.K tl) := by
  intro pins s σ H R I h
  refine thn (hl pins s σ H _ I h) fun v s1 ⟨x, H1, I1, r1, q1⟩ => ?_
  obtain ⟨a, e, ⟨xs, hq⟩, q⟩ := q1
  subst e
  cases r1
  obtain ⟨its, rv, p, hz⟩ := I1.tuple hq
  refine wpAny_pyIter_tuple (show s1.heap.IsTuple a its.toArray from p) ?_
  refine ⟨s1.heap.objs.size, [s1.heap.objs.size], _, _, H1, rfl, I1.kept (t' := s1.toks) fun b o e => Heap.get?_push_of_some _ e, turn_tuple a _, ⟨_, Heap.get?_push_size _ rfl, rfl, rfl⟩, fun b hb => ?_, q⟩
  have e : b = s1.heap.objs.size := by simpa using hb
  subst e
  exact I1.fpOk (Nat.le_refl _) (I1.hok.fresh (Nat.le_refl _))
def tFor (wi : TI) (g : TG) (tb : TS) : TS := fun D σ H => wi σ H fun J H1 => ∃ W : Nat → Nat → St → Hp → Prop, (∃ m, W 0 m σ H1) ∧ ∀ i m σ H, W i m σ H →
  (J.stop i H ∧ D.nx σ H) ∨ (J.go i H ∧ ∃ N : St → Hp → Prop, (∀ σ' H', N σ' H' → ∃ m', m' < m ∧ W (i + 1) m' σ' H') ∧ ∀ x H', J.yld i H x H' → g x σ H' fun σ2 H2 => tb { D with nx := N, ct := N, bk := D.nx } σ2 H2)
def pinsAt (fp : List Addr) (h : Heap) : List (Addr × Obj) := fp.filterMap fun b => (h.get? b).map fun o => (b, o)
theorem mem_pinsAt {fp : List Addr} {h : Heap} {b : Addr} {o : Obj} (hb : b ∈ fp) (e : h.get? b = some o) : (b, o) ∈ pinsAt fp h := List.mem_filterMap.mpr ⟨b, hb, by rw [e]; rfl⟩
theorem of_pinsAt {fp : List Addr} {h : Heap} {p : Addr × Obj} (hp : p ∈ pinsAt fp h) : p.1 ∈ fp ∧ h.get? p.1 = some p.2 := by
  obtain ⟨b, hb, e⟩ := List.mem_filterMap.mp hp
  cases q : h.get? b with
  | none => rw [q] at e; cases e
  | some o =>
    rw [q] at e
    have e' : (b, o) = p := Option.some.inj e
    subst e'
    exact ⟨hb, q⟩
theorem Inv.pinned {pins : List (Addr × Obj)} {σ : St} {H : Hp} {s : Shared} {fp : List Addr} (I : Inv X pins σ H s) (hf : ∀ b ∈ fp, FpOk X pins H b) (ho : ∀ b ∈ fp, ∃ o, s.heap.get? b = some o ∧ ∀ v, o.data ≠ .cell v) : Inv X (pins ++ pinsAt fp s.heap) σ H s :=
  I.pins_of fun p hp => (List.mem_append.mp hp).elim (fun z => I.pin p (List.mem_append_right _ z)) fun z => by
    obtain ⟨hb, e⟩ := of_pinsAt z
    obtain ⟨f0, f1, f2, _⟩ := hf p.1 hb
    obtain ⟨o, e', d⟩ := ho p.1 hb
    rw [e] at e'; cases e'
    exact ⟨e, f0, f1, f2, d⟩
theorem Inv.unpinned {pins pl : List (Addr × Obj)} {σ : St} {H : Hp} {s : Shared} (I : Inv X (pins ++ pl) σ H s) : Inv X pins σ H s := I.pins_of fun p hp => I.pin p (List.mem_append_right _ (List.mem_append_left _ hp))
theorem ps_for {iter : Expr} {body : List Stmt} {wi : TI} {g : TG} {tb : TS} {pos : Pos} (hp : PassesOwn (model X.prog X.w) X.A X.env X.xe) (hc : X.calm = true) (hi : PI X tg iter wi) (hg : PG X tg g) (hb : PSs X body tb)
    (hs : ∀ x, foldedSetIterable iter X.env x = pure x := by intro _; rfl) : PS X (.For tg iter body [] pos) (tFor wi g tb) := by
  intro pins s σ H D I h
  refine wpAny_For (thn (hi pins s σ H _ I h) fun v s1 h1 => thn h1 fun itv s2 h2 => ?_) hs
  obtain ⟨it, fp, tn, J, H2, e, I2, T, st2, f2, W, ⟨m0, w0⟩, turn⟩ := h2
  subst e
  -- what stays true of the iterator's objects through the loop
  have stat : ∀ {H' : Hp}, (∀ b ∈ fp, H' b = none) → ∀ b ∈ fp, FpOk X pins H' b := fun hn b hb => ⟨hn b hb, (f2 b hb).2⟩
  refine codeAny_forLoop_any (fun n s' => ∃ i σ' H', Inv X pins σ' H' s' ∧ tn i s'.heap ∧ (∀ b ∈ fp, H' b = none) ∧ W i n σ' H') ?_ m0 ⟨0, σ, H2, I2, st2, fun b hb => (f2 b hb).1, w0⟩
  rintro n s3 ⟨i, σ3, H3, I3, st3, fr3, w3⟩
  rcases turn i n σ3 H3 w3 with ⟨stop, qn⟩ | ⟨go, N, hN, step⟩
  · refine wpAny_passesOwn hp (thn (T.done X rfl rfl rfl hc i pins s3 σ3 H3 X.xe I3 (stat fr3) st3 stop) fun r s4 ⟨hr, I4⟩ => ?_)
    subst hr
    exact wpAny_execs_nil ⟨σ3, H3, I4, qn⟩
  · refine wpAny_passesOwn hp (thn (T.item X rfl rfl rfl hc i pins s3 σ3 H3 X.xe I3 (stat fr3) st3 go) fun r s4 ⟨u, hr, h4⟩ => ?_)
    subst hr
    refine wpAny_passesOwn hp (thn h4 fun _ s5 ⟨x, H5, I5, r5, y5, st5, fr5⟩ => ?_)
    have I5' := I5.pinned (stat fr5) (T.obj _ _ st5)
    refine wpAny_passesOwn hp (thn (hg _ s5 σ3 H5 x u _ I5' r5 (step x H5 y5)) fun _ s6 ⟨σ6, H6, I6, q6⟩ => ?_)
    refine wpAny_passesOwn hp (thn (hb _ s6 σ6 H6 _ I6 q6) fun f s7 q7 => ?_)
    have again : ∀ {σ7 : St} {H7 : Hp}, Inv X (pins ++ pinsAt fp s5.heap) σ7 H7 s7 → N σ7 H7 → ∃ m, m < n ∧ ∃ i σ' H', Inv X pins σ' H' s7 ∧ tn i s7.heap ∧ (∀ b ∈ fp, H' b = none) ∧ W i m σ' H' := fun {σ7 H7} I7 n7 => by
      obtain ⟨m', hm, w7⟩ := hN σ7 H7 n7
      refine ⟨m', hm, i + 1, σ7, H7, I7.unpinned, T.keep _ _ _ st5 fun b hb o e => (I7.pin (b, o) (List.mem_append_right _ (List.mem_append_right _ (mem_pinsAt hb e)))).1, fun b hb => ?_, w7⟩
      obtain ⟨o, e, d⟩ := T.obj _ _ st5 b hb
      exact (I7.pin (b, o) (List.mem_append_right _ (List.mem_append_right _ (mem_pinsAt hb e)))).2.1
    cases f with
    | next => obtain ⟨σ7, H7, I7, n7⟩ := q7; exact again I7 n7
    | cont => obtain ⟨σ7, H7, I7, n7⟩ := q7; exact again I7 n7
    | brk => obtain ⟨σ7, H7, I7, q7⟩ := q7; exact ⟨σ7, H7, I7.unpinned, q7⟩
    | ret v => obtain ⟨x7, σ7, H7, I7, r7, q7⟩ := q7; exact ⟨x7, σ7, H7, I7.unpinned, r7, q7⟩
end
theorem for_list {K : PySem.W.Frag} {a : Addr} {xs : List V} {g : TG} {tb : TS} {D : Ends} {σ : St} {H : Hp} (Pv : Nat → St → Hp → Prop) (h0 : Pv 0 σ H) (hl : ∀ i σ H, i ≤ xs.length → Pv i σ H → SqL K H a xs)
    (hs : ∀ i x σ H, xs[i]? = some x → Pv i σ H → g x σ H fun σ2 H2 => tb { D with nx := Pv (i + 1), ct := Pv (i + 1), bk := D.nx } σ2 H2) (hd : ∀ σ H, Pv xs.length σ H → D.nx σ H) :
    ∃ W : Nat → Nat → St → Hp → Prop, (∃ m, W 0 m σ H) ∧ ∀ i m σ H, W i m σ H →
      ((Itl K a).stop i H ∧ D.nx σ H) ∨ ((Itl K a).go i H ∧ ∃ N : St → Hp → Prop, (∀ σ' H', N σ' H' → ∃ m', m' < m ∧ W (i + 1) m' σ' H') ∧ ∀ x H', (Itl K a).yld i H x H' → g x σ H' fun σ2 H2 => tb { D with nx := N, ct := N, bk := D.nx } σ2 H2) := by
  refine ⟨fun i m σ H => m = xs.length - i ∧ i ≤ xs.length ∧ Pv i σ H, ⟨xs.length, by simp, Nat.zero_le _, h0⟩, ?_⟩
  rintro i m σ H ⟨rfl, hi, p⟩
  have q := hl i σ H hi p
  by_cases hlt : i < xs.length
  · refine .inr ⟨⟨xs, xs[i], q, by simp [hlt]⟩, Pv (i + 1), fun σ' H' p' => ⟨xs.length - (i + 1), by omega, rfl, hlt, p'⟩, fun x H' y => ?_⟩
    obtain ⟨e, y⟩ := y
    subst e
    exact hs i x σ _ (y xs q) p
  · have e : i = xs.length := by omega
    subst e
    exact .inl ⟨⟨xs, q, Nat.le_refl _⟩, hd σ H p⟩
end L2
namespace L2
open PySem PySem.Spec PyProof.Rows
abbrev R2 := V → V → Hp → VK → Prop
def OpR (X : Cx) (f : Value → Value → Sem Value) (r : R2) : Prop :=
  ∀ (pins : List (Addr × Obj)) (s : Shared) (σ : St) (H : Hp) (x y : V) (v u : Value) (Q : VK), Inv X pins σ H s → RelV x v → RelV y u → r x y H Q →
    wpAny (model X.prog X.w) X.A (f v u) (EP X pins σ Q) X.xe s
def UnR (X : Cx) (f : Value → Sem Value) (r : V → Hp → VK → Prop) : Prop :=
  ∀ (pins : List (Addr × Obj)) (s : Shared) (σ : St) (H : Hp) (x : V) (v : Value) (Q : VK), Inv X pins σ H s → RelV x v → r x H Q →
    wpAny (model X.prog X.w) X.A (f v) (EP X pins σ Q) X.xe s
def CallR (X : Cx) (f : Value) (r : List V → Hp → VK → Prop) : Prop :=
  ∀ (pins : List (Addr × Obj)) (s : Shared) (σ : St) (H : Hp) (xs : List V) (us : List Value) (Q : VK), Inv X pins σ H s → Vals xs us → r xs H Q →
    wpAny (model X.prog X.w) X.A (call f us) (EP X pins σ Q) X.xe s
def tOp (r : R2) (ta tb : TE) : TE := fun σ H Q => ta σ H fun x H1 => tb σ H1 fun y H2 => r x y H2 Q
def tUn (r : V → Hp → VK → Prop) (ta : TE) : TE := fun σ H Q => ta σ H fun x H1 => r x H1 Q
def rI (C : Int → Int → Prop) (g : Int → Int → V) : R2 := fun x y H Q => ∃ i j, x = .int i ∧ y = .int j ∧ C i j ∧ Q (g i j) H
def rI0 (g : Int → Int → V) : R2 := fun x y H Q => ∃ i j, x = .int i ∧ y = .int j ∧ Q (g i j) H
def rU (g : Int → V) : V → Hp → VK → Prop := fun x H Q => ∃ i, x = .int i ∧ Q (g i) H
section
variable {X : Cx} {a b c : Expr} {ta tb tc : TE} {pos : Pos}
theorem binT (ha : PE X a ta) (hb : PE X b tb) {pins : List (Addr × Obj)} {s : Shared} {σ : St} {H : Hp} {R : V → V → Hp → Prop} (I : Inv X pins σ H s)
    (h : ta σ H fun x H1 => tb σ H1 fun y H2 => R x y H2) {Q : Value → Shared → Prop} {f : Value → Value → Sem Value}
    (hf : ∀ v u s2 x y H2, Inv X pins σ H2 s2 → RelV x v → RelV y u → R x y H2 → wpAny (model X.prog X.w) X.A (f v u) Q X.xe s2) :
    wpAny (model X.prog X.w) X.A (eval a X.env) (fun v s₁ => wpAny (model X.prog X.w) X.A (eval b X.env) (fun u s₂ => wpAny (model X.prog X.w) X.A (f v u) Q X.xe s₂) X.xe s₁) X.xe s := by
  refine thn (ha pins s σ H _ I h) fun v s1 ⟨x, H1, I1, r1, q1⟩ => ?_
  refine thn (hb pins s1 σ H1 _ I1 q1) fun u s2 ⟨y, H2, I2, r2, q2⟩ => ?_
  exact hf v u s2 x y H2 I2 r1 r2 q2
theorem pe_op {op : Operator} {r : R2} (ho : OpR X (binaryOp op) r) (ha : PE X a ta) (hb : PE X b tb) : PE X (.BinOp a op b pos) (tOp r ta tb) := by
  intro pins s σ H Q I h
  exact wpAny_BinOp (binT ha hb I h fun v u s2 x y H2 I2 rx ry q => ho pins s2 σ H2 x y v u Q I2 rx ry q)
theorem pe_un {op : UnaryOp} {r : V → Hp → VK → Prop} (ho : UnR X (unaryOp op) r) (ha : PE X a ta) : PE X (.UnaryOp op a pos) (tUn r ta) := by
  intro pins s σ H Q I h
  exact UnaryOp_ (thn (ha pins s σ H _ I h) fun v s1 ⟨x, H1, I1, r1, q1⟩ => ho pins s1 σ H1 x v Q I1 r1 q1)
theorem opI {f : Value → Value → Sem Value} {C : Int → Int → Prop} {g : Int → Int → Int}
    (rule : ∀ (i j : Int) (t u : Tok) (s : Shared) (Q : Value → Shared → Prop) (E : Value → Shared → Prop), C i j → Q (.int (g i j) s.toks) { s with toks := s.toks + 1 } → wpAny (model X.prog X.w) X.A (f (.int i t) (.int j u)) Q E s) :
    OpR X f (rI C fun i j => .int (g i j)) := by
  intro pins s σ H x y v u Q I rx ry h
  obtain ⟨i, j, rfl, rfl, hc, q⟩ := h
  obtain ⟨t, rfl⟩ := rx
  obtain ⟨t', rfl⟩ := ry
  exact rule i j t t' s _ _ hc ⟨.int (g i j), H, I.tok _, ⟨_, rfl⟩, q⟩
theorem opI0 {f : Value → Value → Sem Value} {g : Int → Int → Int}
    (rule : ∀ (i j : Int) (t u : Tok) (s : Shared) (Q : Value → Shared → Prop) (E : Value → Shared → Prop), Q (.int (g i j) s.toks) { s with toks := s.toks + 1 } → wpAny (model X.prog X.w) X.A (f (.int i t) (.int j u)) Q E s) :
    OpR X f (rI0 fun i j => .int (g i j)) := by
  intro pins s σ H x y v u Q I rx ry h
  obtain ⟨i, j, rfl, rfl, q⟩ := h
  obtain ⟨t, rfl⟩ := rx
  obtain ⟨t', rfl⟩ := ry
  exact rule i j t t' s _ _ ⟨.int (g i j), H, I.tok _, ⟨_, rfl⟩, q⟩
theorem opB0 {f : Value → Value → Sem Value} {g : Int → Int → Bool}
    (rule : ∀ (i j : Int) (t u : Tok) (s : Shared) (Q : Value → Shared → Prop) (E : Value → Shared → Prop), Q (.bool (g i j)) s → wpAny (model X.prog X.w) X.A (f (.int i t) (.int j u)) Q E s) :
    OpR X f (rI0 fun i j => .bl (g i j)) := by
  intro pins s σ H x y v u Q I rx ry h
  obtain ⟨i, j, rfl, rfl, q⟩ := h
  obtain ⟨t, rfl⟩ := rx
  obtain ⟨t', rfl⟩ := ry
  exact rule i j t t' s _ _ ⟨.bl (g i j), H, I, rfl, q⟩
def CDiv (i j : Int) : Prop := 0 < j ∧ j < 1073741824
def CPow (i j : Int) : Prop := 0 ≤ j ∧ j ≤ 1000000 ∧ i.natAbs < 2 ^ 64
def CMul (i j : Int) : Prop := (-(2 ^ 64) < i ∧ i < 2 ^ 64) ∨ (-(2 ^ 64) < j ∧ j < 2 ^ 64)
theorem CMul.ok {i j : Int} (h : CMul i j) : IntMulOk i j := by
  rcases h with ⟨h1, h2⟩ | ⟨h1, h2⟩
  · exact .of_left (intBits_le_64 h1 h2)
  · exact .of_right (intBits_le_64 h1 h2)
theorem op_add : OpR X (binaryOp .Add) (rI0 fun i j => .int (i + j)) := opI0 fun _ _ _ _ _ _ _ q => add_int q
theorem op_sub : OpR X (binaryOp .Sub) (rI0 fun i j => .int (i - j)) := opI0 fun _ _ _ _ _ _ _ q => sub_int q
theorem op_mul : OpR X (binaryOp .Mult) (rI CMul fun i j => .int (i * j)) := opI fun _ _ _ _ _ _ _ hc q => mul_int q hc.ok
theorem op_fdiv : OpR X (binaryOp .FloorDiv) (rI CDiv fun i j => .int (i / j)) := opI fun i j _ _ _ _ _ hc q => by
  have h1 : (0 : Int) < j := hc.1
  have h2 : j < 1073741824 := hc.2
  exact floordiv_int (by omega) (by rw [Int.fdiv_eq_ediv_of_nonneg i (by omega)]; exact q) (.inl (PyProof.noPylong_small (by omega)))
theorem op_mod : OpR X (binaryOp .Mod) (rI (fun _ j => 0 < j) fun i j => .int (i % j)) := opI fun i j _ _ _ _ _ hc q => by
  have h1 : (0 : Int) < j := hc
  exact mod_int' (by omega) (by rw [Int.fmod_eq_emod_of_nonneg i (by omega)]; exact q)
theorem op_pow : OpR X (binaryOp .Pow) (rI CPow fun i j => .int (i ^ j.toNat)) := opI fun _ _ _ _ _ _ _ hc q => pow_int_small hc.1 hc.2.1 hc.2.2 q
theorem unI {f : Value → Sem Value} {g : Int → Int}
    (rule : ∀ (i : Int) (t : Tok) (s : Shared) (Q : Value → Shared → Prop) (E : Value → Shared → Prop), Q (.int (g i) s.toks) { s with toks := s.toks + 1 } → wpAny (model X.prog X.w) X.A (f (.int i t)) Q E s) :
    UnR X f (rU fun i => .int (g i)) := by
  intro pins s σ H x v Q I rx h
  obtain ⟨i, rfl, q⟩ := h
  obtain ⟨t, rfl⟩ := rx
  exact rule i t s _ _ ⟨.int (g i), H, I.tok _, ⟨_, rfl⟩, q⟩
theorem un_neg : UnR X (unaryOp .USub) (rU fun i => .int (-i)) := unI fun _ _ _ _ _ q => neg_int q
end
def scal : V → V → Bool
  | .non, .non => true | .non, .int _ => true | .int _, .non => true | .non, .bl _ => true | .bl _, .non => true | .non, .str _ => true | .str _, .non => true
  | .int _, .int _ => true | .bl _, .bl _ => true | .str _, .str _ => true | .byt _, .byt _ => true
  | .int _, .str _ => true | .str _, .int _ => true | .bl _, .str _ => true | .str _, .bl _ => true
  | _, _ => false
def rEq : R2 := fun x y H Q => scal x y = true ∧ Q (.bl (decide (x = y))) H
def rNe : R2 := fun x y H Q => scal x y = true ∧ Q (.bl (!decide (x = y))) H
theorem dec_int {i j : Int} : decide (V.int i = V.int j) = (i == j) := by
  rw [Bool.eq_iff_iff]
  simp
theorem dec_bl {i j : Bool} : decide (V.bl i = V.bl j) = (i == j) := by
  rw [Bool.eq_iff_iff]
  simp
theorem dec_str {i j : Str} : decide (V.str i = V.str j) = (i == j) := by
  rw [Bool.eq_iff_iff]
  simp
theorem dec_byt {i j : Array UInt8} : decide (V.byt i = V.byt j) = (i.toList == j.toList) := by
  rw [Bool.eq_iff_iff]
  cases i
  cases j
  simp
section
variable {X : Cx} {a b c : Expr} {ta tb tc : TE} {pos : Pos}
theorem fin_bl {pins : List (Addr × Obj)} {σ : St} {H : Hp} {s : Shared} {Q : VK} {k k' : Bool} (I : Inv X pins σ H s) (q : Q (.bl k) H) (e : k = k') : EP X pins σ Q (.bool k') s := by
  subst e
  exact ⟨.bl k, H, I, rfl, q⟩
theorem op_eq : OpR X (compareOp .Eq) rEq := by
  intro pins s σ H x y v u Q I rx ry h
  obtain ⟨hs, q⟩ := h
  cases x with
  | non =>
    cases rx
    cases y with
    | non => cases ry; exact PySem.EqNone.eq_none_none (fin_bl I q (by simp))
    | bl j => cases ry; exact PySem.EqNone.eq_none_bool (fin_bl I q (by simp))
    | int j => obtain ⟨t', rfl⟩ := ry; exact PySem.EqNone.eq_none_int (fin_bl I q (by simp))
    | str j => obtain ⟨t', rfl⟩ := ry; exact PySem.EqNone.eq_none_str (fin_bl I q (by simp))
    | _ => exact absurd (show false = true from hs) Bool.false_ne_true
  | bl i =>
    cases rx
    cases y with
    | non => cases ry; exact PySem.EqNone.eq_bool_none (fin_bl I q (by simp))
    | bl j => cases ry; exact eq_bool (fin_bl I q dec_bl)
    | str j => obtain ⟨t', rfl⟩ := ry; exact PySem.EqMixed.eq_bool_str (fin_bl I q (by simp))
    | _ => exact absurd (show false = true from hs) Bool.false_ne_true
  | int i =>
    obtain ⟨t, rfl⟩ := rx
    cases y with
    | non => cases ry; exact PySem.EqNone.eq_int_none (fin_bl I q (by simp))
    | int j => obtain ⟨t', rfl⟩ := ry; exact eq_int (fin_bl I q dec_int)
    | str j => obtain ⟨t', rfl⟩ := ry; exact PySem.EqMixed.eq_int_str (fin_bl I q (by simp))
    | _ => exact absurd (show false = true from hs) Bool.false_ne_true
  | str i =>
    obtain ⟨t, rfl⟩ := rx
    cases y with
    | non => cases ry; exact PySem.EqNone.eq_str_none (fin_bl I q (by simp))
    | bl j => cases ry; exact PySem.EqMixed.eq_str_bool (fin_bl I q (by simp))
    | int j => obtain ⟨t', rfl⟩ := ry; exact PySem.EqMixed.eq_str_int (fin_bl I q (by simp))
    | str j => obtain ⟨t', rfl⟩ := ry; exact eq_str (fin_bl I q dec_str)
    | _ => exact absurd (show false = true from hs) Bool.false_ne_true
  | byt i =>
    obtain ⟨t, rfl⟩ := rx
    cases y with
    | byt j => obtain ⟨t', rfl⟩ := ry; exact PySem.W.eq_bytes (fin_bl I q dec_byt)
    | _ => exact absurd (show false = true from hs) Bool.false_ne_true
  | _ => cases y <;> exact absurd (show false = true from hs) Bool.false_ne_true
theorem op_ne : OpR X (compareOp .NotEq) rNe := by
  intro pins s σ H x y v u Q I rx ry h
  obtain ⟨hs, q⟩ := h
  cases x with
  | non =>
    cases rx
    cases y with
    | non => cases ry; exact PySem.EqNone.ne_none_none (fin_bl I q (by simp))
    | bl j => cases ry; exact PySem.EqNone.ne_none_bool (fin_bl I q (by simp))
    | int j => obtain ⟨t', rfl⟩ := ry; exact PySem.EqNone.ne_none_int (fin_bl I q (by simp))
    | str j => obtain ⟨t', rfl⟩ := ry; exact PySem.EqNone.ne_none_str (fin_bl I q (by simp))
    | _ => exact absurd (show false = true from hs) Bool.false_ne_true
  | bl i =>
    cases rx
    cases y with
    | non => cases ry; exact PySem.EqNone.ne_bool_none (fin_bl I q (by simp))
    | bl j => cases ry; exact ne_bool (fin_bl I q (congrArg not dec_bl))
    | str j => obtain ⟨t', rfl⟩ := ry; exact PySem.EqMixed.ne_bool_str (fin_bl I q (by simp))
    | _ => exact absurd (show false = true from hs) Bool.false_ne_true
  | int i =>
    obtain ⟨t, rfl⟩ := rx
    cases y with
    | non => cases ry; exact PySem.EqNone.ne_int_none (fin_bl I q (by simp))
    | int j => obtain ⟨t', rfl⟩ := ry; exact ne_int (fin_bl I q (congrArg not dec_int))
    | str j => obtain ⟨t', rfl⟩ := ry; exact PySem.EqMixed.ne_int_str (fin_bl I q (by simp))
    | _ => exact absurd (show false = true from hs) Bool.false_ne_true
  | str i =>
    obtain ⟨t, rfl⟩ := rx
    cases y with
    | non => cases ry; exact PySem.EqNone.ne_str_none (fin_bl I q (by simp))
    | bl j => cases ry; exact PySem.EqMixed.ne_str_bool (fin_bl I q (by simp))
    | int j => obtain ⟨t', rfl⟩ := ry; exact PySem.EqMixed.ne_str_int (fin_bl I q (by simp))
    | str j => obtain ⟨t', rfl⟩ := ry; exact ne_str (fin_bl I q (congrArg not dec_str))
    | _ => exact absurd (show false = true from hs) Bool.false_ne_true
  | byt i =>
    obtain ⟨t, rfl⟩ := rx
    cases y with
    | byt j => obtain ⟨t', rfl⟩ := ry; exact PySem.W.ne_bytes (fin_bl I q (congrArg not dec_byt))
    | _ => exact absurd (show false = true from hs) Bool.false_ne_true
  | _ => cases y <;> exact absurd (show false = true from hs) Bool.false_ne_true
theorem op_lt : OpR X (compareOp .Lt) (rI0 fun i j => .bl (decide (i < j))) := opB0 fun _ _ _ _ _ _ _ q => lt_int q
theorem op_gt : OpR X (compareOp .Gt) (rI0 fun i j => .bl (decide (j < i))) := opB0 fun _ _ _ _ _ _ _ q => gt_int q
theorem op_ge : OpR X (compareOp .GtE) (rI0 fun i j => .bl (decide (j ≤ i))) := opB0 fun _ _ _ _ _ _ _ q => ge_int q
theorem nomark (b : Expr) {op : CmpOp} (h : op ≠ .In := by decide) (h2 : op ≠ .NotIn := by decide) : behindInMarks op b = false := by
  have e1 : (op == CmpOp.In) = false := by cases op <;> first | rfl | exact absurd rfl h
  have e2 : (op == CmpOp.NotIn) = false := by cases op <;> first | rfl | exact absurd rfl h2
  cases b <;> simp [behindInMarks, e1, e2]
theorem pe_cmpR {op : CmpOp} {r : R2} (ho : OpR X (compareOp op) r) (ha : PE X a ta) (hb : PE X b tb) (hm : behindInMarks op b = false) : PE X (.Compare a [op] [b] pos) (tOp r ta tb) := by
  intro pins s σ H Q I h
  exact wpAny_Compare1 (binT ha hb I h fun v u s2 x y H2 I2 rx ry q => ho pins s2 σ H2 x y v u Q I2 rx ry q) hm
def tTest (t : TE) : TT := fun σ H Q => t σ H fun x H' => ∃ k, x = .bl k ∧ Q k H'
theorem pt_cmpR {op : CmpOp} {r : R2} (ho : OpR X (compareOp op) r) (ha : PE X a ta) (hb : PE X b tb) (hm : behindInMarks op b = false) : PT X (.Compare a [op] [b] pos) (tTest (tOp r ta tb)) := by
  intro pins s σ H Q I h
  refine wpAny_isTrue_Compare1 (thn (ha pins s σ H _ I h) fun v s1 ⟨x, H1, I1, r1, q1⟩ => thn (hb pins s1 σ H1 _ I1 q1) fun u s2 ⟨y, H2, I2, r2, q2⟩ =>
    thn (ho pins s2 σ H2 x y v u _ I2 r1 r2 q2) fun c s3 ⟨z, H3, I3, r3, k, e, q3⟩ => ?_) hm
  subst e
  cases r3
  exact wpAny_truthy_bool ⟨H3, I3, q3⟩
theorem line63 : (sizeLine : Nat) < 2 ^ 63 := by rw [sizeLine_eq]; decide
theorem vals1 {x : V} {us : List Value} (r : Vals [x] us) : ∃ u, us = [u] ∧ RelV x u := by
  cases r with
  | cons r1 r2 => cases r2; exact ⟨_, rfl, r1⟩
theorem vals2 {x y : V} {us : List Value} (r : Vals [x, y] us) : ∃ u w', us = [u, w'] ∧ RelV x u ∧ RelV y w' := by
  cases r with
  | cons r1 r2 =>
    cases r2 with
    | cons r3 r4 => cases r4; exact ⟨_, _, rfl, r1, r3⟩
theorem call_abs : CallR X (.builtin "abs") (fun xs H Q => ∃ i, xs = [.int i] ∧ Q (.int (if i < 0 then -i else i)) H) := by
  intro pins s σ H xs us Q I r h
  obtain ⟨i, rfl, q⟩ := h
  obtain ⟨u, rfl, t, rfl⟩ := vals1 r
  exact call_abs_int fun u tk => ⟨.int (if i < 0 then -i else i), H, I.tok _, ⟨_, rfl⟩, q⟩
end
end L2
namespace L2
open PySem PySem.Spec PyProof.Rows
structure ObjM (h : Heap) (x dx C : Addr) (mA : Str → Option Value) : Prop where
  obj : h.get? x = some (PySem.W.instObj C dx)
  ns : h.Ns1 dx mA
  ne : dx ≠ x
theorem lookIn_ns {h : Heap} {dx : Addr} {mA : Str → Option Value} (n : h.Ns1 dx mA) : ∃ od, h.get? dx = some od ∧ ∀ name, PySem.W.lookIn name od = some (mA name) := by
  obtain ⟨o, es, ep, ho, hd, hk, _, hm⟩ := n
  refine ⟨o, ho, fun name => ?_⟩
  have e := hm name
  unfold nsFind findBy at e
  rw [← Array.find?_toList] at e
  unfold PySem.W.lookIn
  rw [hd]
  dsimp only
  split
  · rename_i y q
    rw [q] at e
    exact congrArg some e
  · rename_i q
    rw [q] at e
    have a : es.toList.any (·.refKey) = false := by
      rw [List.any_eq_false]
      intro y hy
      obtain ⟨z, t, hkey⟩ := hk y (Array.mem_toList_iff.mp hy)
      simp [DictEntry.refKey, hkey]
    have a' : ¬ es.toList.any (·.refKey) = true := by rw [a]; exact Bool.false_ne_true
    rw [if_neg a']
    exact congrArg some e
theorem ObjM.look {h : Heap} {x dx C : Addr} {mA : Str → Option Value} (I : ObjM h x dx C mA) : ∃ od, PySem.W.InstAt h x (PySem.W.instObj C dx) C (some od) ∧ ∀ name, PySem.W.lookIn name od = some (mA name) :=
  let ⟨od, ho, hl⟩ := lookIn_ns I.ns
  ⟨od, ⟨I.obj, rfl, rfl, ho⟩, hl⟩
section
variable {prog : Program} {w : World} {A : Around} {E : Value → Shared → Prop} {s : Shared} {K : PySem.W.Frag} {x dx C f : Addr} {mA : Str → Option Value} {name : Str} {v : Value}
theorem get_map {expr : Bool} {Q : Value → Shared → Prop} (X : K.In s.heap) (I : ObjM s.heap x dx C mA) (hg : PySem.W.plainGet K C name = true) (hh : PySem.W.hasDictIn K C = true)
    (ha : PySem.W.findIn K (.ref C) name = some none) (hv : mA name = some v) (hv' : PySem.W.handedIn v = true) (h : Q v { s with toks := s.toks + 1 }) :
    wpAny (model prog w) A (getAttr (.ref x) name expr) Q E s := by
  obtain ⟨od, J, hl⟩ := I.look
  exact PySem.W.get_value X J (PySem.W.plainGet_of hg).1 (PySem.W.findObj_own hh ha rfl (by rw [hl, hv])) hv' h
theorem get_meth {pl : Sem Bool} {Q : Value × List Value → Shared → Prop} (X : K.In s.heap) (I : ObjM s.heap x dx C mA) (hg : PySem.W.plainGet K C name = true)
    (hf : PySem.W.findIn K (.ref C) name = some (some (.ref f))) (ht : PySem.W.isFn K (.ref f) = true) (hv : mA name = none) (h : Q (.ref f, [.ref x]) s) :
    wpAny (model prog w) A (getMethod (.ref x) name pl) Q E s := by
  obtain ⟨od, J, hl⟩ := I.look
  exact PySem.W.method_fn X J (PySem.W.plainGet_of hg).1 (PySem.W.plainGet_of hg).2 hf (beq_iff_eq.mp ht) (by show (PySem.W.lookIn name od).map (·.isSome) = some false; rw [hl, hv]; rfl) h
theorem set_map {ns : List Str} {Q : Unit → Shared → Prop} (X : K.In s.heap) (I : ObjM s.heap x dx C mA)
    (hs : PySem.W.findIn K (.ref C) "__setattr__" = some (some (.builtin "object.__setattr__"))) (hp : PySem.W.plainOver K C = true) (ht : PySem.W.takerIn K C name = some none) (hh : PySem.W.hasDictIn K C = true)
    (hw : PySem.Within mA ns) (hsz : ns.length ≤ sizeLine)
    (h : ∀ h', ObjM h' x dx C (fun y => if y = name then some v else mA y) → Heap.SameBut dx s.heap h' → Q () { s with heap := h', toks := s.toks + 2 }) :
    wpAny (model prog w) A (setAttr (.ref x) name v) Q E s := by
  obtain ⟨od, J, hl⟩ := I.look
  refine PySem.W.set_plain X J hs (PySem.W.osa_open (s := { s with toks := s.toks + 1 }) (r := none) X J hp ht fun b => ?_)
  obtain ⟨cd, hc, hd'⟩ := PySem.W.any_some hh
  have hx : s.heap.get? x = some ⟨.ref C, some dx, .plain, #[]⟩ := I.obj
  refine wpAny_bind (wpAny_pure (wpAny_bind (wpAny_bind (wpAny_loadPart hx (wpAny_bind (PySem.W.Looks.here (s := { s with toks := s.toks + 1 }) (PySem.W.looks_clsIn X hc) ?_))))))
  rw [hd']
  refine wpAny_pure (a := some dx) (wpAny_bind (wpAny_pure (wpAny_bind ?_)))
  refine wpAny_nsSet1 (s := { s with toks := s.toks + 1 }) I.ns fun h' hn2 hs2 => ?_
  obtain ⟨oD, esD, epD, hoD, hdD, hcD⟩ := hn2.count (PySem.Within.cons name v hw)
  refine wpAny_bind (wpAny_lookBehind hoD (by rw [hdD]; exact pastItsLine_dict (Nat.le_trans hcD (by rw [List.length_cons]; omega))) ?_)
  exact wpAny_pure (h _ ⟨(hs2.2 _ (Ne.symm I.ne)).trans I.obj, hn2, I.ne⟩ hs2)
theorem make_map {R : Result → Shared → Prop} {vs : List Value} {kw : List (Str × Value)} (X : K.In s.heap) (hm : PySem.W.makesIn K C = true)
    (hi : PySem.W.findIn K (.ref C) "__init__" = some (some (.ref f))) (hf : PySem.W.typeIn K (.ref f) = some (.type "function"))
    (h : codeAny (model prog w) (A.under (.builtin "type.__call__" ⟨.ref C :: vs, kw⟩)) (.call (.ref f) ⟨.ref (s.heap.objs.size + 1) :: vs, kw⟩) (PySem.W.InitBack (s.heap.objs.size + 1) R)
      { s with heap := (s.heap.push PySem.W.emptyDict).push (PySem.W.instObj C s.heap.objs.size) }) :
    codeAny (model prog w) A (.call (.ref C) ⟨vs, kw⟩) R s := by
  obtain ⟨hh, g, d, t, os⟩ := s
  exact PySem.W.make_core (PySem.W.makes_of X hm) (PySem.W.looks_findIn X hi) (fun self => PySem.W.bind_fn X self hf) (.inl rfl) h
end
def putF (f : Str) (v : V) : List (Str × V) → List (Str × V)
  | [] => [(f, v)]
  | (g, x) :: r => if g = f then (g, v) :: r else (g, x) :: putF f v r
theorem lookup_putF (f g : Str) (v : V) : ∀ fs : List (Str × V), (putF f v fs).lookup g = if g = f then some v else fs.lookup g
  | [] => by
    show List.lookup g [(f, v)] = _
    by_cases h : g = f
    · have hb : (g == f) = true := beq_iff_eq.mpr h
      simp only [List.lookup, hb, if_pos h]
    · have hb : (g == f) = false := beq_eq_false_iff_ne.mpr h
      simp only [List.lookup, hb, if_neg h]
  | (k, x) :: r => by
    have ih := lookup_putF f g v r
    rw [show putF f v ((k, x) :: r) = (if k = f then (k, v) :: r else (k, x) :: putF f v r) from rfl]
    by_cases hk : k = f
    · rw [if_pos hk]
      by_cases h : g = k
      · have hb : (g == k) = true := beq_iff_eq.mpr h
        simp only [List.lookup, hb, if_pos (h.trans hk)]
      · have hb : (g == k) = false := beq_eq_false_iff_ne.mpr h
        simp only [List.lookup, hb, if_neg (fun e : g = f => h (e.trans hk.symm))]
    · rw [if_neg hk]
      by_cases h : g = k
      · have hb : (g == k) = true := beq_iff_eq.mpr h
        simp only [List.lookup, hb, if_neg (fun e : g = f => hk (h.symm.trans e))]
      · have hb : (g == k) = false := beq_eq_false_iff_ne.mpr h
        simp only [List.lookup, hb]
        exact ih
theorem keys_putF (f : Str) (v : V) : ∀ fs : List (Str × V), f ∈ (putF f v fs).map (·.1) ∧ ∀ g, g ∈ fs.map (·.1) → g ∈ (putF f v fs).map (·.1)
  | [] => ⟨by simp [putF], fun g h => by simp at h⟩
  | (k, x) :: r => by
    obtain ⟨i1, i2⟩ := keys_putF f v r
    rw [show putF f v ((k, x) :: r) = (if k = f then (k, v) :: r else (k, x) :: putF f v r) from rfl]
    by_cases hk : k = f
    · rw [if_pos hk]
      subst hk
      exact ⟨by simp, fun g h => by simpa using h⟩
    · rw [if_neg hk]
      refine ⟨?_, fun g h => ?_⟩
      · rw [List.map_cons]
        exact List.mem_cons_of_mem _ i1
      · rw [List.map_cons] at h ⊢
        rcases List.mem_cons.mp h with e | e
        · exact List.mem_cons.mpr (.inl e)
        · exact List.mem_cons_of_mem _ (i2 g e)
theorem length_putF (f : Str) (v : V) : ∀ fs : List (Str × V), (putF f v fs).length ≤ fs.length + 1
  | [] => by simp [putF]
  | (k, x) :: r => by
    have ih := length_putF f v r
    rw [show putF f v ((k, x) :: r) = (if k = f then (k, v) :: r else (k, x) :: putF f v r) from rfl]
    by_cases hk : k = f
    · rw [if_pos hk, List.length_cons, List.length_cons]; omega
    · rw [if_neg hk, List.length_cons, List.length_cons]; omega
theorem RelO.some_of {v : V} {o : Option Value} (r : RelO (some v) o) : ∃ u, o = some u ∧ RelV v u := by
  cases o with
  | none => exact (show False from r).elim
  | some u => exact ⟨u, rfl, r⟩
theorem RelO.none_of {o : Option Value} (r : RelO none o) : o = none := by
  cases o with
  | none => rfl
  | some u => exact (show False from r).elim
theorem handed_of {v : V} {u : Value} (r : RelV v u) : PySem.W.handedIn u = true := by
  cases v with
  | non => cases (show u = Value.none from r); rfl
  | bl b => cases (show u = Value.bool b from r); rfl
  | int i => obtain ⟨t, e⟩ := (show ∃ t, u = Value.int i t from r); cases e; rfl
  | str x => obtain ⟨t, e⟩ := (show ∃ t, u = Value.str x t from r); cases e; rfl
  | byt b => obtain ⟨t, e⟩ := (show ∃ t, u = Value.bytes b t from r); cases e; rfl
  | flt b => obtain ⟨t, e⟩ := (show ∃ t, u = Value.float b t from r); cases e; rfl
  | ref a => cases (show u = Value.ref a from r); rfl
  | ty n => cases (show u = Value.type n from r); rfl
section
variable {P : Program} {w : World} {H H' : Hp} {h h' : Heap} {a C dx : Addr} {fs fs' : List (Str × V)}
theorem ins_get (hok : HOk P w H h) (e : H a = some (.ins C dx fs)) : ∃ mA, ObjM h a dx C mA ∧ (∀ f, RelO (fs.lookup f) (mA f)) ∧ PySem.Within mA (fs.map (·.1)) ∧ fs.length ≤ 1000 ∧ H dx = some (.own a) := by
  obtain ⟨d, z, ne, ob, mA, n, r, q⟩ := (show ObjOk P w H h a (.ins C dx fs) from hok a _ e)
  exact ⟨mA, ⟨ob, n, ne⟩, r, q, z, d⟩
end
structure Cls (K : PySem.W.Frag) (C : Addr) : Prop where
  pg : PySem.W.plainGet K C Str.empty = true
  hd : PySem.W.hasDictIn K C = true
  po : PySem.W.plainOver K C = true
  sa : PySem.W.findIn K (.ref C) "__setattr__" = some (some (.builtin "object.__setattr__"))
theorem Cls.get {K : PySem.W.Frag} {C : Addr} (c : Cls K C) (f : Str) : PySem.W.plainGet K C f = true := c.pg
def NoAttr (K : PySem.W.Frag) (C : Addr) (f : Str) : Prop := PySem.W.findIn K (.ref C) f = some none
theorem NoAttr.taker {K : PySem.W.Frag} {C : Addr} {f : Str} (n : NoAttr K C f) : PySem.W.takerIn K C f = some none := by
  unfold PySem.W.takerIn
  rw [show PySem.W.findIn K (.ref C) f = some none from n]
  rfl
structure Meth (K : PySem.W.Frag) (C : Addr) (m : Str) (f : Addr) : Prop where
  at_ : PySem.W.findIn K (.ref C) m = some (some (.ref f))
  fn : PySem.W.isFn K (.ref f) = true
  kp : PySem.W.keepIn K (.ref f) = true
section
variable {X : Cx} {pins : List (Addr × Obj)} {σ : St} {H : Hp} {s : Shared} {a C dx : Addr} {fs : List (Str × V)} {f : Str} {v : V} {A : Around} {E : Value → Shared → Prop}
theorem getattr_ok {b : Bool} {Q : Value → Shared → Prop} (I : Inv X pins σ H s) (e : H a = some (.ins C dx fs)) (c : Cls X.K C) (n : NoAttr X.K C f) (l : fs.lookup f = some v)
    (h : ∀ u s', Inv X pins σ H s' → RelV v u → Q u s') : wpAny (model X.prog X.w) A (getAttr (.ref a) f b) Q E s := by
  obtain ⟨mA, O, r, _, _, _⟩ := ins_get I.hok e
  obtain ⟨u, hu, ru⟩ := RelO.some_of (v := v) (o := mA f) (by rw [← l]; exact r f)
  exact get_map I.kIn O (c.get f) c.hd n hu (handed_of ru) (h u _ (I.tok _) ru)
theorem getmeth_ok {m : Str} {g : Addr} {pl : Sem Bool} {Q : Value × List Value → Shared → Prop} (I : Inv X pins σ H s) (e : H a = some (.ins C dx fs)) (c : Cls X.K C) (k : Meth X.K C m g) (l : fs.lookup m = none)
    (h : Q (.ref g, [.ref a]) s) : wpAny (model X.prog X.w) A (getMethod (.ref a) m pl) Q E s := by
  obtain ⟨mA, O, r, _, _, _⟩ := ins_get I.hok e
  have hn : mA m = none := RelO.none_of (by rw [← l]; exact r m)
  exact get_meth I.kIn O (c.get m) k.at_ k.fn hn h
theorem setattr_ok {y : V} {u : Value} {Q : Unit → Shared → Prop} (I : Inv X pins σ H s) (e : H a = some (.ins C dx fs)) (c : Cls X.K C) (n : NoAttr X.K C f) (hl : fs.length < 1000) (ry : RelV y u)
    (h : ∀ s', Inv X pins σ (upd H a (.ins C dx (putF f y fs))) s' → Q () s') : wpAny (model X.prog X.w) A (setAttr (.ref a) f u) Q E s := by
  obtain ⟨mA, O, r, wi, _, ho⟩ := ins_get I.hok e
  have hz : (fs.map (·.1)).length ≤ sizeLine := by rw [List.length_map, sizeLine_eq]; omega
  refine set_map I.kIn O c.sa c.po n.taker c.hd wi hz fun h' O' sb => h _ ?_
  have hd : ∃ o, h'.get? dx = some o := let ⟨o, _, _, e', _⟩ := O'.ns; ⟨o, e'⟩
  refine I.write (x := a) (e := dx) (by rw [e]; exact True.intro) (.inr ho) (fun b q hb z => (sb.2 b hb).trans z) hd ?_
  refine ⟨by rw [upd_ne O.ne]; exact ho, ?_, O.ne, O'.obj, _, O'.ns, fun g => ?_, fun g hg => ?_⟩
  · have := length_putF f y fs; omega
  · show RelO ((putF f y fs).lookup g) (if g = f then some u else mA g)
    rw [lookup_putF]
    by_cases q : g = f
    · rw [if_pos q, if_pos q]; exact ry
    · rw [if_neg q, if_neg q]; exact r g
  · by_cases q : g = f
    · rw [q]; exact (keys_putF f y fs).1
    · refine (keys_putF f y fs).2 g (wi g fun z => hg ?_)
      show (if g = f then some u else mA g) = none
      rw [if_neg q]; exact z
theorem Inv.made (I : Inv X pins σ H s) : Inv X pins σ (upd (upd H s.heap.objs.size (.own (s.heap.objs.size + 1))) (s.heap.objs.size + 1) (.ins C s.heap.objs.size []))
    { s with heap := (s.heap.push PySem.W.emptyDict).push (PySem.W.instObj C s.heap.objs.size) } := by
  have e1 : (s.heap.push PySem.W.emptyDict).get? s.heap.objs.size = some PySem.W.emptyDict := Heap.get?_push_size s.heap rfl
  have e2 : ((s.heap.push PySem.W.emptyDict).push (PySem.W.instObj C s.heap.objs.size)).get? (s.heap.objs.size + 1) = some (PySem.W.instObj C s.heap.objs.size) := by
    have := Heap.get?_push_size (s.heap.push PySem.W.emptyDict) (o := PySem.W.instObj C s.heap.objs.size) rfl
    rwa [Heap.size_push] at this
  have e3 : (s.heap.push PySem.W.emptyDict).Ns s.heap.objs.size (fun _ => none) := ⟨PySem.W.emptyDict, #[], _, e1, rfl, (fun e he => absurd he (by simp)), fun _ => rfl⟩
  have I1 := I.laid (a := s.heap.objs.size) (o := .own (s.heap.objs.size + 1)) (h' := s.heap.push PySem.W.emptyDict) (t' := s.toks) (fun b u q => Heap.get?_push_of_some _ q) (Nat.le_refl _) ⟨_, e1⟩
  refine I1.laid (a := s.heap.objs.size + 1) (o := .ins C s.heap.objs.size []) (t' := s.toks) (fun b u q => Heap.get?_push_of_some _ q) (Nat.le_of_eq (Heap.size_push _ _)) ?_
  have ne : s.heap.objs.size ≠ s.heap.objs.size + 1 := Nat.ne_of_lt (Nat.lt_succ_self _)
  refine ⟨by rw [upd_ne ne, upd_same], Nat.zero_le _, ne, e2, fun _ => none, (Heap.Ns1.of_empty e3).at fun o q => Heap.get?_push_of_some _ q, fun _ => True.intro, fun y hy => absurd rfl hy⟩
theorem attr_of {prog : Program} {w : World} {env : Env} {e : Expr} {f : Str} {pos : Pos} {s : Shared} {Q : Value → Shared → Prop} (hb : attributeBase e f env (eval e env) = eval e env)
    (h : wpAny (model prog w) A (eval e env) (fun o s₁ => wpAny (model prog w) A (getAttr o f true) Q E s₁) E s) : wpAny (model prog w) A (eval (.Attribute e f pos) env) Q E s :=
  Attribute_any_ h (by rw [arm_eval_Attribute, hb])
end
def tFld (K : PySem.W.Frag) (ta : TE) (f : Str) : TE := fun σ H Q => ta σ H fun x H1 => ∃ a C dx fs v, x = .ref a ∧ H1 a = some (.ins C dx fs) ∧ Cls K C ∧ NoAttr K C f ∧ fs.lookup f = some v ∧ Q v H1
def sFld (K : PySem.W.Frag) (ta tv : TE) (f : Str) : TS := fun D σ H => tv σ H fun y H1 => ta σ H1 fun x H2 => ∃ a C dx fs, x = .ref a ∧ H2 a = some (.ins C dx fs) ∧ Cls K C ∧ NoAttr K C f ∧ fs.length < 1000 ∧
  D.nx σ (upd H2 a (.ins C dx (putF f y fs)))
section
variable {X : Cx} {o e value : Expr} {f : Str} {pos pos' tpos : Pos} {ta tv : TE}
theorem pe_fld (he : PE X e ta) (hb : attributeBase e f X.env (eval e X.env) = eval e X.env) : PE X (.Attribute e f pos) (tFld X.K ta f) := by
  intro pins s σ H Q I h
  refine attr_of hb (thn (he pins s σ H _ I h) fun u s1 ⟨x, H1, I1, rx, a, C, dx, fs, v, ex, ea, c, n, l, q⟩ => ?_)
  subst ex
  obtain rfl : u = Value.ref a := rx
  exact getattr_ok I1 ea c n l fun u' s2 I2 ru => ⟨v, H1, I2, ru, q⟩
theorem ps_fld (ha : PE X o ta) (hv : PE X value tv) (hs : swapsWith value (some (.Attribute o f pos')) pos.line X.env = pure false) : PS X (.Assign [.Attribute o f pos'] value pos) (sFld X.K ta tv f) := by
  intro pins s σ H D I h
  refine plainObj_wpAny_Assign_Attribute (thn (hv pins s σ H _ I h) fun u s1 ⟨y, H1, I1, ry, q⟩ => thn (ha pins s1 σ H1 _ I1 q) fun ov s2 ⟨x, H2, I2, rx, a, C, dx, fs, ex, ea, c, n, l, q2⟩ => ?_) hs
  subst ex
  obtain rfl : ov = Value.ref a := rx
  exact setattr_ok I2 ea c n l ry fun s3 I3 => ⟨σ, _, I3, q2⟩
end
section
variable {X : Cx} {pins : List (Addr × Obj)} {σ : St} {H : Hp} {s : Shared} {A : Around} {E : Value → Shared → Prop} {Q : Value → Shared → Prop} {c : Value} {b : Bool}
inductive TyOf (K : PySem.W.Frag) (H : Hp) : V → Value → Prop where
  | non : TyOf K H .non (.type "NoneType")
  | bl (x : Bool) : TyOf K H (.bl x) (.type "bool")
  | int (i : Int) : TyOf K H (.int i) (.type "int")
  | str (x : Str) : TyOf K H (.str x) (.type "str")
  | flt (x : UInt64) : TyOf K H (.flt x) (.type "float")
  | lst {a : Addr} {xs : List V} (e : H a = some (.lst xs)) : TyOf K H (.ref a) (.type "list")
  | frz {a : Addr} {o : Obj} {xs : List V} (e : H a = some (.frz o (.lst xs))) : TyOf K H (.ref a) (.type "list")
  | tup {a : Addr} {xs : List V} (e : H a = some (.tup xs)) : TyOf K H (.ref a) (.type "tuple")
  | dK {a : Addr} {kvs : List (Key × V)} (e : H a = some (.dK kvs)) : TyOf K H (.ref a) (.type "dict")
  | dT {a : Addr} {kvs : List (List Key × V)} (e : H a = some (.dT kvs)) : TyOf K H (.ref a) (.type "dict")
  | ins {a C dx : Addr} {fs : List (Str × V)} (e : H a = some (.ins C dx fs)) (cl : Cls K C) (ha : PySem.W.findIn K (.ref C) "__class__" = some (some (.builtin "object.__class__")))
      (hn : PySem.W.specialIn K (.builtin "object.__class__") "__get__" = some (some (.builtin "getset_descriptor.__get__"))) (htk : PySem.W.takesIn K (.builtin "object.__class__") = some true)
      (hm : PySem.W.mroIn K C (.type "object") = some true) : TyOf K H (.ref a) (.ref C)
theorem isinst_ok {x : V} {u t : Value} (I : Inv X pins σ H s) (rx : RelV x u) (ty : TyOf X.K H x t) (e : PySem.W.kitOne X.K t c = some b) (h : ∀ tk, Q (.bool b) { s with toks := tk }) :
    wpAny (model X.prog X.w) A (call (.builtin "isinstance") [u, c]) Q E s := by
  cases ty with
  | non => cases (show u = Value.none from rx); exact PySem.W.kia_one PySem.W.kitx_none I.kIn True.intro e (fun z => nomatch z) h
  | bl y => cases (show u = Value.bool y from rx); exact PySem.W.kia_one PySem.W.kitx_bool I.kIn True.intro e (fun z => nomatch z) h
  | int i => obtain ⟨t, q⟩ := (show ∃ t, u = Value.int i t from rx); cases q; exact PySem.W.kia_one PySem.W.kitx_int I.kIn True.intro e (fun z => nomatch z) h
  | str y => obtain ⟨t, q⟩ := (show ∃ t, u = Value.str y t from rx); cases q; exact PySem.W.kia_one PySem.W.kitx_str I.kIn True.intro e (fun z => nomatch z) h
  | flt y => obtain ⟨t, q⟩ := (show ∃ t, u = Value.float y t from rx); cases q; exact PySem.W.kia_one PySem.W.kitx_float I.kIn True.intro e (fun z => nomatch z) h
  | @lst a xs ea =>
    cases (show u = Value.ref a from rx)
    obtain ⟨_, _, n, _, h1⟩ := (show ObjOk X.prog X.w H s.heap a (.lst xs) from I.hok a _ ea)
    exact PySem.W.kia_one PySem.W.kitx_list I.kIn ⟨_, h1, rfl⟩ e (fun z => nomatch z) h
  | @frz a ob xs ea =>
    cases (show u = Value.ref a from rx)
    obtain ⟨_, _, _, n, _, h1⟩ := (show ObjOk X.prog X.w H s.heap a (.frz ob (.lst xs)) from I.hok a _ ea)
    exact PySem.W.kia_one PySem.W.kitx_list I.kIn ⟨_, h1, rfl⟩ e (fun z => nomatch z) h
  | @tup a xs ea =>
    cases (show u = Value.ref a from rx)
    obtain ⟨_, _, _, p⟩ := (show ObjOk X.prog X.w H s.heap a (.tup xs) from I.hok a _ ea)
    obtain ⟨o, h1, h2, _⟩ := p
    exact PySem.W.kia_one PySem.W.kitx_tuple I.kIn ⟨o, h1, h2⟩ e (fun z => nomatch z) h
  | @dK a kvs ea =>
    cases (show u = Value.ref a from rx)
    obtain ⟨_, _, vs, _, p⟩ := (show ObjOk X.prog X.w H s.heap a (.dK kvs) from I.hok a _ ea)
    obtain ⟨o, es, ep, h1, h2, _⟩ := p
    exact PySem.W.kia_one PySem.W.kitx_dict I.kIn ⟨o, h1, h2.1⟩ e (fun z => nomatch z) h
  | @dT a kvs ea =>
    cases (show u = Value.ref a from rx)
    obtain ⟨_, _, xs, _, o, es, ep, h1, h2, _⟩ := (show ObjOk X.prog X.w H s.heap a (.dT kvs) from I.hok a _ ea)
    exact PySem.W.kia_one PySem.W.kitx_dict I.kIn ⟨o, h1, h2.1⟩ e (fun z => nomatch z) h
  | @ins a C dx fs ea cl ha hn htk hm =>
    cases (show u = Value.ref a from rx)
    obtain ⟨mA, O, _⟩ := ins_get I.hok ea
    obtain ⟨od, J, _⟩ := O.look
    exact PySem.W.kia_one (PySem.W.kitx_own (cl.get _) cl.hd ha hn htk hm) I.kIn J e (fun z => nomatch z) h
end
end L2
namespace L2
open PySem PySem.Spec PyProof.Rows
structure Room (k : Nat) (A : Around) : Prop where
  hd : A.handled = none
  dp : A.depth + 3 * k + 5 < recursionLimit
  un : A.units + 16 * k + 200 < cLine
theorem make_depth {A : Around} {C : Addr} {us : List Value} {kw : List (Str × Value)} : (A.under (.builtin "type.__call__" ⟨.ref C :: us, kw⟩)).depth = A.depth + 1 := by
  first | rfl | simp [Around.under, Code.weight, Code.isCreation, Code.isGuard, Code.isCaller, Code.frames, Code.isFrame, guardIds]
theorem make_units {A : Around} {C : Addr} {us : List Value} {kw : List (Str × Value)} : (A.under (.builtin "type.__call__" ⟨.ref C :: us, kw⟩)).units = A.units + 1 := by
  first | rfl | simp [Around.under, Code.cUnits, Code.frames, Code.isFrame]
theorem Room.make {k : Nat} {A : Around} (r : Room (k + 1) A) (C : Addr) (us : List Value) (kw : List (Str × Value)) : Room k (A.under (.builtin "type.__call__" ⟨.ref C :: us, kw⟩)) :=
  ⟨r.hd, by have := r.dp; rw [make_depth]; omega, by have := r.un; rw [make_units]; omega⟩
def tNil : TA := fun _ H Q => Q [] H
def tCons (ta : TE) (tr : TA) : TA := fun σ H Q => ta σ H fun x H1 => tr σ H1 fun xs H2 => Q (x :: xs) H2
section
variable {X : Cx} {e : Expr} {es : List Expr} {te : TE} {t : TA} {pos : Pos}
theorem pa_nil : PA X [] tNil := fun _ _ _ _ H Q I h => Calls.spliced_nil ⟨[], H, I, .nil, h⟩
theorem pa_cons (ha : PE X e te) (hr : PA X es t) (hs : starEach (e :: es) X.env = (false, eval e X.env) :: starEach es X.env := by rfl) : PA X (e :: es) (tCons te t) := by
  intro pos pins s σ H Q I h
  rw [hs]
  show wpAny _ _ (spliced ((false, eval e X.env) :: backTo pos (starEach es X.env))) _ _ s
  refine Calls.spliced_cons (thn (ha pins s σ H _ I h) fun u s1 ⟨x, H1, I1, r1, q1⟩ => ?_)
  exact thn (hr pos pins s1 σ H1 _ I1 q1) fun us s2 ⟨xs, H2, I2, r2, q2⟩ => ⟨x :: xs, H2, I2, .cons r1 r2, q2⟩
def tTup (t : TA) : TE := fun σ H Q => t σ H fun xs H1 => xs.length ≤ sizeLine ∧ ∀ p, H1 p = none → Q (.ref p) (upd H1 p (.tup xs))
def tLst (t : TA) : TE := fun σ H Q => t σ H fun xs H1 => xs.length ≤ sizeLine ∧ ∀ p, H1 p = none → Q (.ref p) (upd H1 p (.lst xs))
theorem pe_tup {x1} (h : PA X es t) : PE X (.Tuple es x1 pos) (tTup t) := by
  intro pins s σ H Q I hq
  refine wpAny_Tuple_spliced (thn (h pos pins s σ H _ I hq) fun us s1 ⟨xs, H1, I1, r, z, q⟩ => ⟨by rw [← r.length]; exact z, ?_⟩)
  have hf : H1 s1.heap.objs.size = none := I1.hok.fresh (Nat.le_refl _)
  refine ⟨.ref s1.heap.objs.size, upd H1 s1.heap.objs.size (.tup xs), I1.laid (t' := s1.toks) (fun b u e => Heap.get?_push_of_some _ e) (Nat.le_refl _) ?_, rfl, q _ hf⟩
  exact ⟨z, us, r, ⟨_, Heap.get?_push_size _ rfl, rfl, _, rfl⟩⟩
theorem pe_lst (h : PA X es t) : PE X (.List es pos) (tLst t) := by
  intro pins s σ H Q I hq
  refine wpAny_List_spliced (thn (h pos pins s σ H _ I hq) fun us s1 ⟨xs, H1, I1, r, z, q⟩ => ⟨by rw [← r.length]; exact z, ?_⟩)
  have hf : H1 s1.heap.objs.size = none := I1.hok.fresh (Nat.le_refl _)
  refine ⟨.ref s1.heap.objs.size, upd H1 s1.heap.objs.size (.lst xs), I1.laid (t' := s1.toks) (fun b u e => Heap.get?_push_of_some _ e) (Nat.le_refl _) ?_, rfl, q _ hf⟩
  exact ⟨z, us, 0, r, Heap.get?_push_size _ rfl⟩
end
abbrev Sp := List V → Hp → VK → XK → Prop
abbrev CXT := List Env → Hp → Shared → XK → Value → Shared → Prop
structure Env0 (P : Program) (w : World) (K : PySem.W.Frag) (mg : Str → Option Value) (base : Heap) (A : Around) (outer : List Env) (s : Shared) (H : Hp) : Prop where
  frames : A.frames = some outer
  mod : Mod K mg base
  bs : ∀ b o, base.get? b = some o → s.heap.get? b = some o ∧ H b = none
  bsz : base.objs.size ≤ s.heap.objs.size
  funs : s.heap.FunFrames base outer
  frf : ∀ b ∈ frs outer, H b = none
  hok : HOk P w H s.heap
  bare : AllBare s.gens
def CE (outer : List Env) (P : Program) (w : World) (H : Hp) (s : Shared) (Q : VK) (u : Value) (s' : Shared) : Prop :=
  ∃ v H', s'.os = s.os ∧ AllBare s'.gens ∧ Un (frs outer) [] H H' s.heap s'.heap ∧ HOk P w H' s'.heap ∧ RelV v u ∧ Q v H'
def CR (CX : CXT) (outer : List Env) (P : Program) (w : World) (H : Hp) (s : Shared) (Q : VK) (E : XK) (r : Result) (s' : Shared) : Prop :=
  match r with
  | .ok (.ret u) => CE outer P w H s Q u s'
  | .ok _ => False
  | .error e => CX outer H s E e s'
structure FnOk (P : Program) (w : World) (K : PySem.W.Frag) (mg : Str → Option Value) (base : Heap) (CX : CXT) (k : Nat) (f : Addr) (fd : FuncData) (ps : List Str) (sp : Sp) : Prop where
  len : ∀ vs H Q E, sp vs H Q E → vs.length = ps.length
  run : ∀ (A : Around) (outer : List Env) (s : Shared) (H : Hp) (args : Args) (us : List Value) (vs : List V) (Q : VK) (E : XK), Room k A → Env0 P w K mg base A outer s H → BindsTo s fd args (ps.zip us) → Vals vs us → sp vs H Q E →
    codeAny (model P w) A (.call (.ref f) args) (CR CX outer P w H s Q E) s
theorem Env0.make {P : Program} {w : World} {K : PySem.W.Frag} {mg : Str → Option Value} {base : Heap} {A : Around} {outer : List Env} {s : Shared} {H : Hp} (e : Env0 P w K mg base A outer s H) (C : Addr) (us : List Value) (kw : List (Str × Value)) :
    Env0 P w K mg base (A.under (.builtin "type.__call__" ⟨.ref C :: us, kw⟩)) outer s H := ⟨by first | exact e.frames | (simpa [Around.under, Code.envs, Code.isFrame, pushEnvs] using e.frames), e.mod, e.bs, e.bsz, e.funs, e.frf, e.hok, e.bare⟩
section
variable {X : Cx} {pins : List (Addr × Obj)} {σ : St} {H : Hp} {s s' : Shared}
theorem Inv.env0 (I : Inv X pins σ H s) : Env0 X.prog X.w X.K X.mg X.base X.A X.stack s H :=
  ⟨I.ok.frames, I.ok.mod, I.bs, Nat.le_trans I.ok.bsz I.sz, I.stack, I.stkFree, I.hok, I.bare⟩
theorem Inv.after {Q : VK} {u : Value} (I : Inv X pins σ H s) (h : CE X.stack X.prog X.w H s Q u s') : EP X pins σ Q u s' := by
  obtain ⟨v, H', os, bare, un, hok, r, q⟩ := h
  obtain ⟨hh, g, d, t, os'⟩ := s'
  obtain rfl : os' = s.os := os
  exact ⟨v, H', I.call (h' := hh) (g' := g) (d' := d) (t' := t) (ch := []) un hok bare (fun b z => absurd z (by simp)), r, q⟩
end
def tCall (sp : Sp) (dvs : List V) (E : XK) (t : TA) : TE := fun σ H Q => t σ H fun vs H1 => sp (vs ++ dvs) H1 Q E
def tMake (C : Addr) (sp : Sp) (dvs : List V) (E : XK) (t : TA) : TE := fun σ H Q => t σ H fun vs H1 => ∀ x dx, H1 x = none → H1 dx = none → dx ≠ x →
  sp (.ref x :: (vs ++ dvs)) (upd (upd H1 dx (.own x)) x (.ins C dx [])) (fun v H2 => v = .non ∧ Q (.ref x) H2) E
def Binds (K : PySem.W.Frag) (fd : FuncData) (ps : List Str) (ds : List Value) : Prop :=
  ∀ (s : Shared) (us : List Value), K.In s.heap → (us ++ ds).length = ps.length → BindsTo s fd ⟨us, []⟩ (ps.zip (us ++ ds))
theorem Binds.all {K : PySem.W.Frag} {fd : FuncData} {ps : List Str} (h : ∀ us : List Value, us.length = ps.length → bindArgs fd ⟨us, []⟩ = pure (ps.zip us)) : Binds K fd ps [] := fun s us _ hl => by
  rw [List.append_nil] at hl ⊢
  exact .of_eq (h us hl)
def Passes (CX : CXT) (X : Cx) (E : XK) : Prop := ∀ (pins : List (Addr × Obj)) (σ : St) (H : Hp) (s : Shared) (e : Value) (s' : Shared), Inv X pins σ H s → CX X.stack H s E e s' → X.xe e s'
section
variable {X : Cx} {CX : CXT} {k : Nat} {f C : Addr} {fd : FuncData} {ps : List Str} {sp : Sp} {dvs : List V} {ds : List Value} {E : XK} {x m : Str} {p pos apos : Pos} {e o : Expr} {es : List Expr} {ta : TE} {t : TA}
theorem run_fn {pins : List (Addr × Obj)} {σ : St} {H : Hp} {s : Shared} {Q : VK} {us : List Value} {vs : List V} (F : FnOk X.prog X.w X.K X.mg X.base CX k f fd ps sp) (hr : Room k X.A) (hb : Binds X.K fd ps ds) (hd : Vals dvs ds) (hx : Passes CX X E)
    (I : Inv X pins σ H s) (r : Vals vs us) (h : sp (vs ++ dvs) H Q E) : wpAny (model X.prog X.w) X.A (call (.ref f) us) (EP X pins σ Q) X.xe s := by
  have r2 : Vals (vs ++ dvs) (us ++ ds) := r.append hd
  have hl : (us ++ ds).length = ps.length := by rw [← r2.length]; exact F.len _ _ _ _ h
  refine wpAny_call (codeAny_mono (F.run X.A X.stack s H ⟨us, []⟩ (us ++ ds) (vs ++ dvs) Q E hr I.env0 (hb s us I.kIn hl) r2 h) fun r s' hq => ?_)
  cases r with
  | error e => exact hx pins σ H s e s' I hq
  | ok fl =>
    cases fl with
    | ret u => exact I.after hq
    | next => exact False.elim hq
    | brk => exact False.elim hq
    | cont => exact False.elim hq
structure Mk (K : PySem.W.Frag) (C f : Addr) : Prop where
  makes : PySem.W.makesIn K C = true
  init : PySem.W.findIn K (.ref C) "__init__" = some (some (.ref f))
  fn : PySem.W.isFn K (.ref f) = true
  kp : PySem.W.keepIn K (.ref C) = true
theorem run_make {pins : List (Addr × Obj)} {σ : St} {H : Hp} {s : Shared} {Q : VK} {us : List Value} {vs : List V} (M : Mk X.K C f) (F : FnOk X.prog X.w X.K X.mg X.base CX k f fd ps sp) (hr : Room (k + 1) X.A) (hb : Binds X.K fd ps ds) (hd : Vals dvs ds)
    (hx : Passes CX X E) (I : Inv X pins σ H s) (r : Vals vs us)
    (h : ∀ x dx, H x = none → H dx = none → dx ≠ x → sp (.ref x :: (vs ++ dvs)) (upd (upd H dx (.own x)) x (.ins C dx [])) (fun v H2 => v = .non ∧ Q (.ref x) H2) E) :
    wpAny (model X.prog X.w) X.A (call (.ref C) us) (EP X pins σ Q) X.xe s := by
  have hq := h (s.heap.objs.size + 1) s.heap.objs.size (I.hok.fresh (Nat.le_succ _)) (I.hok.fresh (Nat.le_refl _)) (Nat.ne_of_lt (Nat.lt_succ_self _))
  have I2 := Inv.made (C := C) I
  have r2 : Vals (V.ref (s.heap.objs.size + 1) :: (vs ++ dvs)) (Value.ref (s.heap.objs.size + 1) :: (us ++ ds)) := .cons rfl (r.append hd)
  have hl : (Value.ref (s.heap.objs.size + 1) :: us ++ ds).length = ps.length := by
    have e := r2.length
    rw [F.len _ _ _ _ hq] at e
    exact e.symm
  refine wpAny_call (make_map (f := f) I.kIn M.makes M.init (beq_iff_eq.mp M.fn) (codeAny_mono (F.run _ X.stack _ _ ⟨Value.ref (s.heap.objs.size + 1) :: us, []⟩ (Value.ref (s.heap.objs.size + 1) :: (us ++ ds)) _ _ E (hr.make C us [])
    (I2.env0.make C us []) (hb _ (Value.ref (s.heap.objs.size + 1) :: us) I2.kIn hl) r2 hq) fun r s' hq' => ?_))
  cases r with
  | error e => exact hx pins σ _ _ e s' I2 hq'
  | ok fl =>
    cases fl with
    | ret u =>
      obtain ⟨v, H', I3, rv, ev, q3⟩ := I2.after hq'
      subst ev
      exact ⟨rv, ⟨V.ref (s.heap.objs.size + 1), H', I3, rfl, q3⟩⟩
    | next => exact False.elim hq'
    | brk => exact False.elim hq'
    | cont => exact False.elim hq'
theorem pe_make (M : Mk X.K C f) (F : FnOk X.prog X.w X.K X.mg X.base CX k f fd ps sp) (hr : Room (k + 1) X.A) (hg : Gl X x) (hm : X.mg x = some (.ref C)) (hb : Binds X.K fd ps ds) (hd : Vals dvs ds) (hx : Passes CX X E)
    (ha : PA X (e :: es) t) (hdb : (x == ("__debug__" : Str)) = false := by decide) (he : starEach (e :: es) X.env = (false, eval e X.env) :: starEach es X.env := by rfl) (hpl : (backTo pos (starEach es X.env)).any (·.1) = false := by rfl) :
    PE X (.Call (.Name x p) (e :: es) [] pos) (tMake C sp dvs E t) := by
  intro pins s σ H Q I h
  refine wpAny_Call_Name_kw (ld_glob I hg hm ?_ hdb)
  refine PySem.W.callWith_K (h₀ := X.base) I.ok.mod.kin M.kp (thn (ha pos pins s σ H _ I h) fun us s1 ⟨vs, H1, I1, r, q⟩ => ⟨I1.kIn, ?_⟩) he hpl
  exact run_make M F hr hb hd hx I1 r q
end
structure FnScope (N P : List Str) (sc : Scope) : Prop where
  kind : sc.kind = .function
  co : sc.isCoroutine = false
  gen : sc.isGenerator = false
  nd : N.Nodup
  pre : N.take P.length = P
  par : ∀ x ∈ P, sc.names.lookup x = some .local ∨ sc.names.lookup x = some .cell
  nofree : ∀ y ∈ sc.names, y.2 ≠ .free
theorem bindL_out {kindOf : Str → Option NameKind} {x : Str} : ∀ {binds : List (Str × Value)} {m : Str → Option Value}, (∀ v, (x, v) ∉ binds) → bindL kindOf binds m x = m x
  | [], _, _ => rfl
  | (n, v) :: r, m, h => by
    unfold bindL
    rw [bindL_out fun w hw => h w (List.mem_cons_of_mem _ hw)]
    split
    · have : x ≠ n := by rintro rfl; exact h v List.mem_cons_self
      simp [this]
    · rfl
theorem bindC_out {kindOf : Str → Option NameKind} {x : Str} : ∀ {binds : List (Str × Value)} {m : Str → Option Value}, (∀ v, (x, v) ∉ binds) → bindC kindOf binds m x = m x
  | [], _, _ => rfl
  | (n, v) :: r, m, h => by
    unfold bindC
    rw [bindC_out fun w hw => h w (List.mem_cons_of_mem _ hw)]
    split
    · rfl
    · have : x ≠ n := by rintro rfl; exact h v List.mem_cons_self
      simp [this]
theorem bindL_get {kindOf : Str → Option NameKind} {x : Str} {v : Value} : ∀ {P : List Str} {vs : List Value} {i : Nat} {m : Str → Option Value}, P.Nodup → P[i]? = some x → vs[i]? = some v → kindOf x = some .local →
    bindL kindOf (P.zip vs) m x = some v
  | [], _, _, _, _, h, _, _ => by simp at h
  | _ :: _, [], _, _, _, _, h, _ => by simp at h
  | p :: P, w :: vs, 0, m, nd, h1, h2, hk => by
    simp at h1 h2; subst h1; subst h2
    show bindL kindOf ((p, w) :: P.zip vs) m p = _
    unfold bindL
    rw [bindL_out fun v hv => (List.nodup_cons.mp nd).1 (List.of_mem_zip hv).1, if_pos hk]
    simp
  | p :: P, w :: vs, i + 1, m, nd, h1, h2, hk => by
    show bindL kindOf ((p, w) :: P.zip vs) m x = _
    unfold bindL
    exact bindL_get (i := i) (List.nodup_cons.mp nd).2 (by simpa using h1) (by simpa using h2) hk
theorem bindC_get {kindOf : Str → Option NameKind} {x : Str} {v : Value} : ∀ {P : List Str} {vs : List Value} {i : Nat} {m : Str → Option Value}, P.Nodup → P[i]? = some x → vs[i]? = some v → kindOf x ≠ some .local →
    bindC kindOf (P.zip vs) m x = some v
  | [], _, _, _, _, h, _, _ => by simp at h
  | _ :: _, [], _, _, _, _, h, _ => by simp at h
  | p :: P, w :: vs, 0, m, nd, h1, h2, hk => by
    simp at h1 h2; subst h1; subst h2
    show bindC kindOf ((p, w) :: P.zip vs) m p = _
    unfold bindC
    rw [bindC_out fun v hv => (List.nodup_cons.mp nd).1 (List.of_mem_zip hv).1, if_neg hk]
    simp
  | p :: P, w :: vs, i + 1, m, nd, h1, h2, hk => by
    show bindC kindOf ((p, w) :: P.zip vs) m x = _
    unfold bindC
    exact bindC_get (i := i) (List.nodup_cons.mp nd).2 (by simpa using h1) (by simpa using h2) hk
def start (N : List Str) (vs : List V) : St := vs.map some ++ List.replicate (N.length - vs.length) none
def cxOf (CX : CXT) (P : Program) (w : World) (K : PySem.W.Frag) (mg : Str → Option Value) (base : Heap) (N : List Str) (qual : Str) (scope : Scope) (f : Addr) (cd : Value) (A : Around) (outer : List Env) (s : Shared) (H : Hp) (E : XK) : Cx where
  prog := P
  w := w
  K := K
  mg := mg
  base := base
  A := A.deeper (envOfC qual scope s.heap.objs.size f cd)
  N := N
  s₀ := s
  H₀ := H
  env := envOfC qual scope s.heap.objs.size f cd
  outer := outer
  stack := envOfC qual scope s.heap.objs.size f cd :: outer
  ex := []
  calm := true
  fn := fun _ => true
  pn := []
  xe := fun e s' => wpAny (model P w) (A.deeper (envOfC qual scope s.heap.objs.size f cd)) (leaving (envOfC qual scope s.heap.objs.size f cd) e) (fun _ s'' => CX outer H s E e s'') (fun e' s'' => CX outer H s E e' s'') s'
theorem cell_has {sc : Scope} {n : Nat} {x : Str} (h : sc.names.lookup x = some .cell) : ∃ c, (cellsFrom n sc.names []).lookup x = some c := by
  have q := PySem.W.cellsFrom_some sc.names n [] (.inl h)
  exact Option.isSome_iff_exists.mp q
end L2
namespace L2
open PySem PySem.Spec PyProof.Rows
section
variable {X : Cx} {x : Str} {p pos : Pos} {e : Expr} {es : List Expr} {t : TA} {id T : String} {r : List V → Hp → VK → Prop}
def tCB (r : List V → Hp → VK → Prop) (t : TA) : TE := fun σ H Q => t σ H fun vs H1 => r vs H1 Q
theorem pe_callB (hc : CallR X (.builtin id) r) (hg : Gl X x) (hm : X.mg x = none) (hv : bootBuiltins x = some (.builtin id)) (ha : PA X (e :: es) t) (hn : x ≠ "__name__" := by decide) (hdb : (x == ("__debug__" : Str)) = false := by decide)
    (he : starEach (e :: es) X.env = (false, eval e X.env) :: starEach es X.env := by rfl) (hpl : (backTo pos (starEach es X.env)).any (·.1) = false := by rfl) : PE X (.Call (.Name x p) (e :: es) [] pos) (tCB r t) := by
  intro pins s σ H Q I h
  refine wpAny_Call_Name_kw (ld_blt I hg hm hv ?_ hn hdb)
  exact PyProof.Rows.callWith_builtin1 (thn (ha pos pins s σ H _ I h) fun us s1 ⟨vs, H1, I1, r1, q1⟩ => hc pins s1 σ H1 vs us Q I1 r1 q1) he hpl
theorem pe_callTy (hc : CallR X (.type T) r) (hg : Gl X x) (hm : X.mg x = none) (hv : bootBuiltins x = some (.type T)) (ha : PA X (e :: es) t) (hn : x ≠ "__name__" := by decide) (hdb : (x == ("__debug__" : Str)) = false := by decide)
    (he : starEach (e :: es) X.env = (false, eval e X.env) :: starEach es X.env := by rfl) (hpl : (backTo pos (starEach es X.env)).any (·.1) = false := by rfl) : PE X (.Call (.Name x p) (e :: es) [] pos) (tCB r t) := by
  intro pins s σ H Q I h
  refine wpAny_Call_Name_kw (ld_blt I hg hm hv ?_ hn hdb)
  exact PyProof.Rows.callWith_type1 (thn (ha pos pins s σ H _ I h) fun us s1 ⟨vs, H1, I1, r1, q1⟩ => hc pins s1 σ H1 vs us Q I1 r1 q1) he hpl
end
end L2
namespace HT
open PySem PyProof.Rows
section
variable {prog : Program} {w : World} {A : Around} {E : Value → Shared → Prop} {s : Shared}
def sIx (n d : Nat) : Option Int → Nat
  | none => d
  | some v => if v < 0 then (v + (n : Int)).toNat else min v.toNat n
theorem sIx_none (n d : Nat) : sIx n d none = d := rfl
theorem sIx_nat (n d k : Nat) : sIx n d (some (k : Int)) = min k n := by
  show (if (k : Int) < 0 then ((k : Int) + (n : Int)).toNat else min (k : Int).toNat n) = min k n
  rw [if_neg (by omega), Int.toNat_natCast]
theorem sIx_le (n d : Nat) (hd : d ≤ n) (o : Option Int) : sIx n d o ≤ n := by
  cases o with
  | none => exact hd
  | some v =>
    show (if v < 0 then (v + (n : Int)).toNat else min v.toNat n) ≤ n
    by_cases hv : v < 0
    · rw [if_pos hv]; omega
    · rw [if_neg hv]; exact Nat.min_le_right _ _
theorem clip_eq (v : Int) (n d : Nat) : (if v < 0 then max (v + (n : Int)) 0 else min v (n : Int)) = ((sIx n d (some v) : Nat) : Int) := by
  show (if v < 0 then max (v + (n : Int)) 0 else min v (n : Int)) = (((if v < 0 then (v + (n : Int)).toNat else min v.toNat n) : Nat) : Int)
  by_cases hv : v < 0
  · simp only [if_pos hv]; omega
  · simp only [if_neg hv]; omega
theorem adjust_gen (lo hi : Option Int) (n : Nat) : Builtin.Slice.sliceAdjust lo hi 1 (n : Int) = (((sIx n 0 lo : Nat) : Int), ((sIx n n hi : Nat) : Int)) := by
  have h1 : ¬ ((1 : Int) < 0) := by omega
  unfold Builtin.Slice.sliceAdjust
  simp only [h1, if_false]
  refine Prod.ext ?_ ?_
  · cases lo with
    | none => rfl
    | some v => exact clip_eq v n 0
  · cases hi with
    | none => rfl
    | some v => exact clip_eq v n n
theorem places_gen (i j : Nat) : Builtin.Slice.slicePlaces (i : Int) (j : Int) 1 = j - i := by
  unfold Builtin.Slice.slicePlaces
  have h1 : (1 : Int) > 0 := by omega
  simp only [h1, if_true, Int.ediv_one]
  split <;> omega
theorem slicePart_ {v : Value} {o : Option Int} {Q : Option Int → Shared → Prop} (p : IsPart v o) (h : Q o s) : wpAny (model prog w) A (Builtin.Slice.slicePartIndex v) Q E s := by
  cases p with
  | none => exact slicePart_none h
  | int i t => exact slicePart_int h
theorem sliceApplied_gen {sl : Addr} {vl vu : Value} {lo hi : Option Int} {n : Nat} {Q : Int × Int × Nat → Shared → Prop} (hs : s.heap.IsSliceOf sl vl vu .none) (pl : IsPart vl lo) (pu : IsPart vu hi)
    (h : Q (((sIx n 0 lo : Nat) : Int), 1, sIx n n hi - sIx n 0 lo) s) : wpAny (model prog w) A (Builtin.Slice.sliceApplied (.ref sl) (pure (n : Int))) Q E s := by
  obtain ⟨os, hos, hcs, hds⟩ := id hs
  unfold Builtin.Slice.sliceApplied Builtin.Slice.sliceFields
  refine wpAny_bind (wpAny_bind (wpAny_field hos hds (x := vl) rfl (wpAny_bind (wpAny_field hos hds (x := vu) rfl (wpAny_bind (wpAny_field hos hds (x := .none) rfl (wpAny_pure ?_)))))))
  refine wpAny_bind (slicePart_none ?_)
  show wpAny _ _ (if ((1 : Int) == 0) = true then _ else _) _ _ s
  rw [if_neg (by decide)]
  refine wpAny_bind (slicePart_ pl (wpAny_bind (slicePart_ pu (wpAny_bind (wpAny_pure ?_)))))
  show wpAny _ _ (match Builtin.Slice.sliceAdjust lo hi 1 (n : Int) with | (lo, hi) => pure (lo, (1 : Int), Builtin.Slice.slicePlaces lo hi 1)) _ _ s
  rw [adjust_gen lo hi n]
  show wpAny _ _ (pure (((sIx n 0 lo : Nat) : Int), (1 : Int), Builtin.Slice.slicePlaces ((sIx n 0 lo : Nat) : Int) ((sIx n n hi : Nat) : Int) 1)) _ _ s
  rw [places_gen]
  exact wpAny_pure h
theorem pick_gen (xs : Array Value) (i k : Nat) : ((List.range k).filterMap fun (m : Nat) => xs[((i : Int) + (m : Int) * 1).toNat]?).toArray = ((xs.toList.drop i).take k).toArray := by
  have e : (fun (m : Nat) => xs[((i : Int) + (m : Int) * 1).toNat]?) = fun m => xs[i + m]? := by
    funext m
    have : ((i : Int) + (m : Int) * 1).toNat = i + m := by omega
    rw [this]
  rw [e]
  have := pick_run xs i k
  rw [List.filterMap_map] at this
  have e2 : ((fun x => xs[x]?) ∘ fun x => i + x) = fun m => xs[i + m]? := rfl
  rw [e2] at this
  rw [this]
theorem getItem_tuple_cut {t sl : Addr} {items : Array Value} {vl vu : Value} {lo hi : Option Int} {Q : Value → Shared → Prop} (ht : IsTup s.heap t items) (hs : s.heap.IsSliceOf sl vl vu .none) (pl : IsPart vl lo) (pu : IsPart vu hi)
    (hw : ¬ (sIx items.size 0 lo = 0 ∧ sIx items.size items.size hi = items.size))
    (h : Q (.ref s.heap.objs.size) { s with heap := s.heap.push { cls := .type "tuple", data := .seq ((items.toList.drop (sIx items.size 0 lo)).take (sIx items.size items.size hi - sIx items.size 0 lo)).toArray } })
    (hsz : items.size ≤ sizeLine) : wpAny (model prog w) A (getItem (.ref t) (.ref sl)) Q E s := by
  have htake : sizeOk (.seq ((items.toList.drop (sIx items.size 0 lo)).take (sIx items.size items.size hi - sIx items.size 0 lo)).toArray) := by
    show ((items.toList.drop (sIx items.size 0 lo)).take (sIx items.size items.size hi - sIx items.size 0 lo)).toArray.size ≤ sizeLine
    rw [List.size_toArray, List.length_take, List.length_drop, Array.length_toList]
    omega
  have hj : sIx items.size items.size hi ≤ items.size := sIx_le _ _ (Nat.le_refl _) hi
  obtain ⟨os, hos, hcs, hds⟩ := id hs
  have hTs : s.TypeIs (.ref sl) "slice" := ⟨os, hos, hcs⟩
  unfold getItem
  try with_reducible refine wpAny_holding ?_
  first | refine wpAny_bind (wpAny_pure ?_) | skip
  refine wpAny_bind (wpAny_sequenceKey ht.typeIs (by decide) ?_)
  refine wpAny_bind (wpAny_callSpecial?_slot (name := Str.ofString "__getitem__") ht.typeIs PyProof.Rows.slot_tuple_getitem
    (wpAny_call_entry PyProof.Rows.slot_tuple_getitem ht.typeIs entry_tuple_getitem ?_ (args_tuple_getitem _ _)))
  show wpAny _ _ (Builtin.Tuple.tupleItemsOf (.ref t) >>= _) _ _ s
  refine wpAny_bind (tupleItemsOf_ ht ?_)
  refine wpAny_bind (wpAny_typeOf hTs ?_)
  rw [if_pos (by decide)]
  refine wpAny_bind (sliceApplied_gen hs pl pu ?_)
  have hno : ¬ ((((sIx items.size 0 lo : Nat) : Int) == 0 && (1 : Int) == 1 && (sIx items.size items.size hi - sIx items.size 0 lo) == items.size) = true) := by
    intro q
    rw [Bool.and_eq_true, Bool.and_eq_true] at q
    have q1 : ((sIx items.size 0 lo : Nat) : Int) = 0 := eq_of_beq q.1.1
    have q2 : sIx items.size items.size hi - sIx items.size 0 lo = items.size := eq_of_beq q.2
    exact hw ⟨by omega, by omega⟩
  show wpAny _ _ (if (((sIx items.size 0 lo : Nat) : Int) == 0 && (1 : Int) == 1 && (sIx items.size items.size hi - sIx items.size 0 lo) == items.size) = true then _ else _) _ _ s
  rw [if_neg hno, pick_gen]
  first
    | exact wpAny_bind (m := Builtin.Tuple.tupleExact _) (wpAny_newObj_type (wpAny_pure ⟨_, rfl, wpAny_pure h⟩) htake)
    | exact wpAny_bind (m := Builtin.Tuple.tupleExact _) (wpAny_newObj_type (wpAny_bind (wpAny_pure (wpAny_pure ⟨_, rfl, wpAny_pure h⟩))) htake)
    | exact wpAny_bind (wpAny_bind (m := Builtin.Tuple.tupleExact _) (wpAny_newObj_type (wpAny_pure (wpAny_pure ⟨_, rfl, wpAny_pure h⟩)) htake))
    | exact wpAny_bind (wpAny_bind (m := Builtin.Tuple.tupleExact _) (wpAny_newObj_type (wpAny_pure ⟨_, rfl, wpAny_pure h⟩) htake))
end
end HT
namespace L2
open PySem PySem.Spec PyProof.Rows
abbrev TO := St → Hp → (Option Int → Hp → Prop) → Prop
def PO (X : Cx) (e : Option Expr) (t : TO) : Prop :=
  ∀ (pins : List (Addr × Obj)) (s : Shared) (σ : St) (H : Hp) (Q : Option Int → Hp → Prop), Inv X pins σ H s → t σ H Q →
    wpAny (model X.prog X.w) X.A (evalPart e X.env) (fun u s' => ∃ o H', Inv X pins σ H' s' ∧ IsPart u o ∧ Q o H') X.xe s
def tNoPart : TO := fun _ H Q => Q none H
def tPart (t : TE) : TO := fun σ H Q => t σ H fun x H1 => ∃ i, x = .int i ∧ Q (some i) H1
section
variable {X : Cx} {e : Expr} {te : TE} {lo hi : Option Expr} {tl th : TO} {pos p2 : Pos}
theorem po_none : PO X none tNoPart := by
  intro pins s σ H Q I h
  rw [evalPart_none]
  exact wpAny_pure ⟨none, H, I, .none, h⟩
theorem po_some (h : PE X e te) : PO X (some e) (tPart te) := by
  intro pins s σ H Q I hw
  rw [evalPart_some]
  refine thn (h pins s σ H _ I hw) fun u s1 ⟨x, H1, I1, r1, q1⟩ => ?_
  obtain ⟨i, rfl, q⟩ := q1
  obtain ⟨t, rfl⟩ := r1
  exact ⟨some i, H1, I1, .int i t, q⟩
def SlR (X : Cx) (r : V → Option Int → Option Int → Hp → VK → Prop) : Prop :=
  ∀ (pins : List (Addr × Obj)) (s : Shared) (σ : St) (H : Hp) (x : V) (v vl vu : Value) (lo hi : Option Int) (sl : Addr) (Q : VK), Inv X pins σ H s → RelV x v → s.heap.IsSliceOf sl vl vu .none → IsPart vl lo → IsPart vu hi → r x lo hi H Q →
    ∃ T id, typeLookup (.type T) "__getitem__" = pure (some (.builtin id)) ∧ s.TypeIs v T ∧ wpAny (model X.prog X.w) X.A (getItem v (.ref sl)) (EP X pins σ Q) X.xe s
def tSl (r : V → Option Int → Option Int → Hp → VK → Prop) (te : TE) (tl th : TO) : TE := fun σ H Q => te σ H fun x H1 => tl σ H1 fun l H2 => th σ H2 fun u H3 => r x l u H3 Q
theorem pe_slice {r : V → Option Int → Option Int → Hp → VK → Prop} (hr : SlR X r) (he : PE X e te) (hl : PO X lo tl) (hu : PO X hi th) : PE X (.Subscript e (.Slice lo hi none p2) pos) (tSl r te tl th) := by
  intro pins s σ H Q I h
  refine Subscript_ (thn (he pins s σ H _ I h) fun v s1 ⟨x, H1, I1, r1, q1⟩ => ?_)
  refine wpAny_Slice (thn (hl pins s1 σ H1 _ I1 q1) fun vl s2 ⟨l, H2, I2, pl, q2⟩ => thn (hu pins s2 σ H2 _ I2 q2) fun vu s3 ⟨u, H3, I3, pu, q3⟩ => ?_)
  rw [evalPart_none]
  refine wpAny_pure ?_
  have I4 : Inv X pins σ H3 { s3 with heap := s3.heap.push { cls := .type "slice", data := .fields #[vl, vu, .none] } } := I3.kept (t' := s3.toks) fun b ob q => Heap.get?_push_of_some _ q
  obtain ⟨T, id, hT, ht, hg⟩ := hr pins { s3 with heap := s3.heap.push { cls := .type "slice", data := .fields #[vl, vu, .none] } } σ H3 x v vl vu l u s3.heap.objs.size Q I4 r1 (Heap.IsSliceOf.new ..) pl pu q3
  show wpAny (model X.prog X.w) X.A (subscriptTail e (.Slice lo hi none p2) v (.ref s3.heap.objs.size)) (EP X pins σ Q) X.xe { s3 with heap := s3.heap.push { cls := .type "slice", data := .fields #[vl, vu, .none] } }
  exact tail_any (ops := [.ref s3.heap.objs.size, v]) ht hT hg (by with_unfolding_all rfl)
def cutV (xs : List V) (lo hi : Option Int) : List V := (xs.drop (HT.sIx xs.length 0 lo)).take (HT.sIx xs.length xs.length hi - HT.sIx xs.length 0 lo)
theorem cutV_length (xs : List V) (lo hi : Option Int) : (cutV xs lo hi).length ≤ xs.length := by
  unfold cutV
  rw [List.length_take, List.length_drop]
  omega
def rSlT (K : PySem.W.Frag) : V → Option Int → Option Int → Hp → VK → Prop := fun x lo hi H Q => ∃ a xs, x = .ref a ∧ SqT K H a xs ∧
  ¬ (HT.sIx xs.length 0 lo = 0 ∧ HT.sIx xs.length xs.length hi = xs.length) ∧ ∀ p, H p = none → Q (.ref p) (upd H p (.tup (cutV xs lo hi)))
theorem sl_tup : SlR X (rSlT X.K) := by
  intro pins s σ H x v vl vu lo hi sl Q I rx hs pl pu h
  obtain ⟨a, xs, rfl, hx, hw, q⟩ := h
  cases rx
  obtain ⟨its, r, ht, hz⟩ := I.tuple hx
  have hlen : its.toArray.size = xs.length := by rw [List.size_toArray]; exact r.length.symm
  refine ⟨"tuple", _, PyProof.Rows.slot_tuple_getitem.lookup, ht.typeIs, ?_⟩
  refine HT.getItem_tuple_cut ht hs pl pu (by rw [hlen]; exact hw) ?_ (by rw [hlen]; exact hz)
  rw [hlen]
  refine ⟨.ref s.heap.objs.size, _, I.laid (t' := s.toks) (o := .tup (cutV xs lo hi)) (fun b ob q => Heap.get?_push_of_some _ q) (Nat.le_refl _) ?_, rfl, q _ (I.hok.fresh (Nat.le_refl _))⟩
  exact ⟨Nat.le_trans (cutV_length xs lo hi) hz, _, (r.drop (HT.sIx xs.length 0 lo)).take (HT.sIx xs.length xs.length hi - HT.sIx xs.length 0 lo), IsTup.new _ _⟩
end
end L2
namespace L2
open PySem PySem.Spec PyProof.Rows
def ixN (n : Nat) (i : Int) : Option Nat := if 0 ≤ i then (if i < n then some i.toNat else none) else if -(n : Int) ≤ i then some (i + n).toNat else none
def atI {α : Type} (xs : List α) (i : Int) : Option α := (ixN xs.length i).bind fun j => xs[j]?
theorem ixN_seq {n : Nat} {i : Int} {j : Nat} (h : ixN n i = some j) : seqIndex? i n = some j ∧ j < n ∧ -(n : Int) ≤ i ∧ i < n := by
  unfold ixN at h
  by_cases h0 : 0 ≤ i
  · rw [if_pos h0] at h
    by_cases h1 : i < n
    · rw [if_pos h1] at h
      have e : i.toNat = j := Option.some.inj h
      exact ⟨by rw [seqIndex_of h0 h1, e], by omega, by omega, h1⟩
    · rw [if_neg h1] at h; cases h
  · rw [if_neg h0] at h
    by_cases h1 : -(n : Int) ≤ i
    · rw [if_pos h1] at h
      have e : (i + n).toNat = j := Option.some.inj h
      exact ⟨by rw [seqIndex_neg (by omega) h1, e], by omega, h1, by omega⟩
    · rw [if_neg h1] at h; cases h
theorem atI_get {α : Type} {xs : List α} {i : Int} {v : α} (h : atI xs i = some v) : ∃ j, seqIndex? i xs.length = some j ∧ xs[j]? = some v ∧ j < xs.length ∧ -(xs.length : Int) ≤ i ∧ i < xs.length := by
  unfold atI at h
  cases e : ixN xs.length i with
  | none => rw [e] at h; cases h
  | some j =>
    rw [e] at h
    obtain ⟨h1, h2, h3, h4⟩ := ixN_seq e
    exact ⟨j, h1, h, h2, h3, h4⟩
theorem atI_nat {α : Type} {xs : List α} {j : Nat} {v : α} (h : xs[j]? = some v) : atI xs (j : Int) = some v := by
  have hj : j < xs.length := (List.getElem?_eq_some_iff.mp h).1
  have e : ixN xs.length (j : Int) = some j := by
    unfold ixN
    rw [if_pos (by omega), if_pos (by omega)]; simp
  unfold atI; rw [e]; exact h
theorem atI_last {α : Type} (xs : List α) (v : α) : atI (xs ++ [v]) (-1) = some v := by
  have hl : (xs ++ [v]).length = xs.length + 1 := by simp
  have e : ixN (xs ++ [v]).length (-1) = some xs.length := by
    unfold ixN
    rw [hl, if_neg (by decide), if_pos (by omega)]
    congr 1
    omega
  unfold atI
  rw [e]
  show (xs ++ [v])[xs.length]? = some v
  simp
def PlainIx (b : Expr) : Prop := ∀ o i, subscripted b false o i = operate [o, i] (getItem o i)
def IxR (X : Cx) (r : R2) : Prop :=
  ∀ (value slice : Expr) (pins : List (Addr × Obj)) (s : Shared) (σ : St) (H : Hp) (x y : V) (v u : Value) (Q : VK), Inv X pins σ H s → RelV x v → RelV y u → r x y H Q →
    subscripted slice false v u = operate [v, u] (getItem v u) → wpAny (model X.prog X.w) X.A (subscriptTail value slice v u) (EP X pins σ Q) X.xe s
def MtR (X : Cx) (id : String) (r : V → List V → Hp → VK → Prop) : Prop :=
  ∀ (pins : List (Addr × Obj)) (s : Shared) (σ : St) (H : Hp) (x : V) (xs : List V) (v : Value) (us : List Value) (Q : VK), Inv X pins σ H s → RelV x v → Vals xs us → r x xs H Q →
    wpAny (model X.prog X.w) X.A (call (.builtin id) (v :: us)) (EP X pins σ Q) X.xe s
section
variable {X : Cx} {a b : Expr} {ta tb : TE} {pos : Pos}
theorem pe_ix {r : R2} (hr : IxR X r) (ha : PE X a ta) (hb : PE X b tb) (hs : PlainIx b) : PE X (.Subscript a b pos) (tOp r ta tb) := by
  intro pins s σ H Q I h
  exact Subscript_ (binT ha hb I h fun v u s2 x y H2 I2 rx ry q => hr a b pins s2 σ H2 x y v u Q I2 rx ry q (hs _ _))
def rIxL (K : PySem.W.Frag) : R2 := fun x y H Q => ∃ p xs i v, x = .ref p ∧ y = .int i ∧ SqL K H p xs ∧ atI xs i = some v ∧ Q v H
def rIxT (K : PySem.W.Frag) : R2 := fun x y H Q => ∃ p xs i v, x = .ref p ∧ y = .int i ∧ SqT K H p xs ∧ atI xs i = some v ∧ Q v H
theorem ix_list : IxR X (rIxL X.K) := by
  intro value slice pins s σ H x y v u Q I rx ry h hs
  obtain ⟨p, xs, i, z, rfl, rfl, hq, he, q⟩ := h
  cases rx
  obtain ⟨t, rfl⟩ := ry
  obtain ⟨its, r, pl, hz⟩ := I.list hq
  obtain ⟨j, h1, h2, h3, h4, h5⟩ := atI_get he
  obtain ⟨w, ew, rw'⟩ := r.get h2
  have hl := r.length
  have hn := line63
  have fin : EP X pins σ Q w s := ⟨z, H, I, rw', q⟩
  by_cases h0 : 0 ≤ i
  · have hj : i.toNat = j := by
      rw [seqIndex_of h0 h5] at h1
      exact Option.some.inj h1
    exact item_listR pl.isList h0 (by omega) (by rw [hj]; simpa using ew) fin hs
  · have hj : (i + (its.toArray.size : Int)).toNat = j := by
      rw [seqIndex_neg (by omega) h4] at h1
      rw [List.size_toArray, ← hl]
      exact Option.some.inj h1
    exact subscriptTail_builtinR (x := w) pl.isList.typeIs slot_list_getitem.lookup
      (wpAny_getItem_list_neg (Q := fun r s' => r = w ∧ EP X pins σ Q r s') pl.isList (by omega) (by rw [List.size_toArray] <;> omega) (by omega) (by rw [hj]; simpa using ew) ⟨rfl, fin⟩) hs
theorem ix_tup : IxR X (rIxT X.K) := by
  intro value slice pins s σ H x y v u Q I rx ry h hs
  obtain ⟨p, xs, i, z, rfl, rfl, hq, he, q⟩ := h
  cases rx
  obtain ⟨t, rfl⟩ := ry
  obtain ⟨its, r, pl, hz⟩ := I.tuple hq
  obtain ⟨j, h1, h2, h3, h4, h5⟩ := atI_get he
  obtain ⟨w, ew, rw'⟩ := r.get h2
  have hl := r.length
  have hn := line63
  have fin : EP X pins σ Q w s := ⟨z, H, I, rw', q⟩
  exact subscriptTail_builtinR (x := w) pl.typeIs slot_tuple_getitem.lookup
    (getItem_tuple (j := j) (Q := fun r s' => r = w ∧ EP X pins σ Q r s') pl (by omega) (by omega) (by rw [List.size_toArray, ← hl]; exact h1) (by simpa using ew) ⟨rfl, fin⟩) hs
theorem slice_bounds (lo hi : Option Int) (n : Nat) : (sliceBounds lo hi none n).1 = ((HT.sIx n 0 lo : Nat) : Int) ∧ (sliceBounds lo hi none n).2.1 = ((HT.sIx n n hi : Nat) : Int) ∧ (sliceBounds lo hi none n).2.2 = 1 := by
  refine ⟨?_, ?_, rfl⟩
  · cases lo with
    | none => simp [sliceBounds, HT.sIx]
    | some i =>
      simp only [sliceBounds, HT.sIx, Option.getD_none, show (1 : Int) > 0 by decide, if_true]
      by_cases h : i < 0
      · simp only [h, if_true] <;> omega
      · simp only [h, if_false] <;> omega
  · cases hi with
    | none => simp [sliceBounds, HT.sIx]
    | some i =>
      simp only [sliceBounds, HT.sIx, Option.getD_none, show (1 : Int) > 0 by decide, if_true]
      by_cases h : i < 0
      · simp only [h, if_true] <;> omega
      · simp only [h, if_false] <;> omega
theorem slicePick_cut (its : List Value) (lo hi : Option Int) : slicePick its.toArray lo hi none = ((its.drop (HT.sIx its.length 0 lo)).take (HT.sIx its.length its.length hi - HT.sIx its.length 0 lo)).toArray := by
  obtain ⟨h1, h2, h3⟩ := slice_bounds lo hi its.toArray.size
  unfold slicePick
  rw [h1, h2, h3]
  simp only [sliceRange_one, pick_run, List.size_toArray] <;> rfl
def rSlL (K : PySem.W.Frag) : V → Option Int → Option Int → Hp → VK → Prop := fun x lo hi H Q => ∃ a xs, x = .ref a ∧ SqL K H a xs ∧ ∀ p, H p = none → Q (.ref p) (upd H p (.lst (cutV xs lo hi)))
theorem sl_list : SlR X (rSlL X.K) := by
  intro pins s σ H x v vl vu lo hi sl Q I rx hs pl pu h
  obtain ⟨a, xs, rfl, hx, q⟩ := h
  cases rx
  obtain ⟨its, r, ht, hz⟩ := I.list hx
  have hlen := r.length
  refine ⟨"list", _, slot_list_getitem.lookup, ht.isList.typeIs, ?_⟩
  refine wpAny_getItem_list_slice ht.isList hs pl pu .none (by simp) ?_ (by rw [List.size_toArray] <;> omega)
  rw [slicePick_cut, ← hlen]
  refine ⟨.ref s.heap.objs.size, _, I.laid (t' := s.toks) (o := .lst (cutV xs lo hi)) (fun b ob q => Heap.get?_push_of_some _ q) (Nat.le_refl _) ?_, rfl, q _ (I.hok.fresh (Nat.le_refl _))⟩
  exact ⟨Nat.le_trans (cutV_length xs lo hi) hz, _, 0, (r.drop (HT.sIx xs.length 0 lo)).take (HT.sIx xs.length xs.length hi - HT.sIx xs.length 0 lo), Heap.get?_push_size _ rfl⟩
def flatV : V → Bool
  | .non => true
  | .bl _ => true
  | .int _ => true
  | .str _ => true
  | _ => false
def eqV : V → V → Bool
  | .non, .non => true
  | .bl a, .bl b => a == b
  | .bl a, .int b => (if a then 1 else 0) == b
  | .int a, .bl b => a == (if b then 1 else 0)
  | .int a, .int b => a == b
  | .str a, .str b => a == b
  | _, _ => false
theorem eqAt_V {A : Around} {s : Shared} {y x : V} {u v : Value} (ry : RelV y u) (rx : RelV x v) (fy : flatV y = true) (fx : flatV x = true) : SeqAt.EqAt A s u v (eqV y x) := by
  cases y with
  | non =>
    cases ry
    cases x with
    | non => cases rx; exact SeqAt.EqAt.same _
    | bl b => cases rx; exact SeqAt.EqAt.none_bool b
    | int b => obtain ⟨t, rfl⟩ := rx; exact SeqAt.EqAt.none_int b t
    | str b => obtain ⟨t, rfl⟩ := rx; exact SeqAt.EqAt.none_str b t
    | _ => exact absurd (show false = true from fx) Bool.false_ne_true
  | bl a =>
    cases ry
    cases x with
    | non => cases rx; exact SeqAt.EqAt.bool_none a
    | bl b => cases rx; exact SeqAt.EqAt.bool_bool a b
    | int b => obtain ⟨t, rfl⟩ := rx; exact SeqAt.EqAt.bool_int a b t
    | str b => obtain ⟨t, rfl⟩ := rx; exact SeqAt.EqAt.bool_str a b t
    | _ => exact absurd (show false = true from fx) Bool.false_ne_true
  | int a =>
    obtain ⟨t', rfl⟩ := ry
    cases x with
    | non => cases rx; exact SeqAt.EqAt.int_none a t'
    | bl b => cases rx; exact SeqAt.EqAt.int_bool a t' b
    | int b => obtain ⟨t, rfl⟩ := rx; exact SeqAt.EqAt.int_int a t' b t
    | str b => obtain ⟨t, rfl⟩ := rx; exact SeqAt.EqAt.int_str a t' b t
    | _ => exact absurd (show false = true from fx) Bool.false_ne_true
  | str a =>
    obtain ⟨t', rfl⟩ := ry
    cases x with
    | non => cases rx; exact SeqAt.EqAt.str_none a t'
    | bl b => cases rx; exact SeqAt.EqAt.str_bool a t' b
    | int b => obtain ⟨t, rfl⟩ := rx; exact SeqAt.EqAt.str_int a t' b t
    | str b => obtain ⟨t, rfl⟩ := rx; exact SeqAt.EqAt.str_str a t' b t
    | _ => exact absurd (show false = true from fx) Bool.false_ne_true
  | _ => exact absurd (show false = true from fy) Bool.false_ne_true
def eqU (x : V) (u : Value) : Bool := match u with
  | .none => eqV .non x
  | .bool b => eqV (.bl b) x
  | .int i _ => eqV (.int i) x
  | .str z _ => eqV (.str z) x
  | _ => false
theorem eqU_of {x y : V} {u : Value} (r : RelV y u) (f : flatV y = true) : eqU x u = eqV y x := by
  cases y with
  | non => cases r; rfl
  | bl b => cases r; rfl
  | int i => obtain ⟨t, rfl⟩ := r; rfl
  | str z => obtain ⟨t, rfl⟩ := r; rfl
  | _ => exact absurd (show false = true from f) Bool.false_ne_true
theorem any_eqU {x : V} : ∀ {xs : List V} {us : List Value}, Vals xs us → xs.all flatV = true → us.any (eqU x) = xs.any fun y => eqV y x
  | _, _, .nil, _ => rfl
  | y :: xs, u :: us, .cons r t, f => by
    rw [List.all_cons, Bool.and_eq_true] at f
    rw [List.any_cons, List.any_cons, eqU_of r f.1, any_eqU t f.2]
theorem mem_eqAt {A : Around} {s : Shared} {x : V} {v : Value} (rx : RelV x v) (fx : flatV x = true) : ∀ {xs : List V} {us : List Value}, Vals xs us → xs.all flatV = true → ∀ u ∈ us, SeqAt.EqAt A s u v (eqU x u)
  | _, _, .nil, _ => fun u hu => by cases hu
  | y :: xs, u :: us, .cons r t, f => fun u' hu => by
    rw [List.all_cons, Bool.and_eq_true] at f
    rcases List.mem_cons.mp hu with rfl | hu
    · rw [eqU_of r f.1]; exact eqAt_V r rx f.1 fx
    · exact mem_eqAt rx fx t f.2 u' hu
def inV (x : V) (xs : List V) : Bool := xs.any fun y => eqV y x
def rIn (K : PySem.W.Frag) (neg : Bool) : R2 := fun x y H Q => ∃ p xs, y = .ref p ∧ (SqL K H p xs ∨ SqT K H p xs) ∧ flatV x = true ∧ xs.all flatV = true ∧ Q (.bl (if neg then !inV x xs else inV x xs)) H
theorem op_in_seq : OpR X (compareOp .In) (rIn X.K false) := by
  intro pins s σ H x y v u Q I rx ry h
  obtain ⟨p, xs, rfl, hq, fx, fs, q⟩ := h
  cases ry
  rcases hq with hq | hq
  · obtain ⟨its, r, pl, hz⟩ := I.list hq
    refine SeqAt.in_listAt (eqU x) pl.isList (fun w hw => mem_eqAt rx fx r fs w (by simpa using hw)) ⟨.bl _, H, I, rfl, ?_⟩
    rw [show its.toArray.any (eqU x) = its.any (eqU x) by simp, any_eqU r fs]
    exact q
  · obtain ⟨its, r, pl, hz⟩ := I.tuple hq
    refine SeqAt.in_tupleAt (eqU x) pl (fun w hw => mem_eqAt rx fx r fs w (by simpa using hw)) ⟨.bl _, H, I, rfl, ?_⟩
    rw [show its.toArray.any (eqU x) = its.any (eqU x) by simp, any_eqU r fs]
    exact q
theorem call_len_seq : CallR X (.builtin "len") (fun xs H Q => ∃ p ys, xs = [.ref p] ∧ (SqL X.K H p ys ∨ SqT X.K H p ys) ∧ Q (.int ys.length) H) := by
  intro pins s σ H xs us Q I r h
  obtain ⟨p, ys, rfl, hq, q⟩ := h
  obtain ⟨u, rfl, rx⟩ := vals1 r
  cases rx
  have hn := line63
  rcases hq with hq | hq
  · obtain ⟨its, r', pl, hz⟩ := I.list hq
    have hlen := r'.length
    exact Calls.call_len_list pl.isList (by simp only [List.size_toArray] <;> omega) ⟨.int ys.length, H, I.tok _, ⟨s.toks + 1, by rw [List.size_toArray, hlen]⟩, q⟩
  · obtain ⟨its, r', pl, hz⟩ := I.tuple hq
    have hlen := r'.length
    exact len_tuple pl (by simp only [List.size_toArray] <;> omega) ⟨.int ys.length, H, I.tok _, ⟨s.toks + 1, by rw [List.size_toArray, hlen]⟩, q⟩
theorem call_tuple_of : CallR X (.type "tuple") (fun xs H Q => ∃ p ys, xs = [.ref p] ∧ ((SqL X.K H p ys ∧ ∀ l, H l = none → Q (.ref l) (upd H l (.tup ys))) ∨ (SqT X.K H p ys ∧ Q (.ref p) H))) := by
  intro pins s σ H xs us Q I r h
  obtain ⟨p, ys, rfl, h⟩ := h
  obtain ⟨u, rfl, rx⟩ := vals1 r
  cases rx
  rcases h with ⟨hq, q⟩ | ⟨hq, q⟩
  · obtain ⟨its, r', pl, hz⟩ := I.list hq
    have hlen := r'.length
    refine call_tuple_list pl.isList (fun h' kp => ?_) (by simp only [List.size_toArray] <;> omega)
    have I1 : Inv X pins σ H { s with heap := h' } := I.kept (t' := s.toks) kp
    have I2 : Inv X pins σ (upd H h'.objs.size (.tup ys)) { s with heap := h'.push { cls := .type "tuple", data := .seq its.toArray } } :=
      I1.laid (t' := s.toks) (fun b o e => Heap.get?_push_of_some _ e) (Nat.le_refl _) (show ObjOk X.prog X.w _ _ _ (.tup ys) from ⟨hz, its, r', IsTup.new _ _⟩)
    exact ⟨.ref h'.objs.size, _, I2, rfl, q _ (I1.hok.fresh (Nat.le_refl _))⟩
  · obtain ⟨its, r', pl, hz⟩ := I.tuple hq
    exact call_tuple_same pl ⟨.ref p, H, I, rfl, q⟩
def tyV (K : PySem.W.Frag) (T : String) (x : V) (H : Hp) : Prop := match x with
  | .str _ => T = "str"
  | .int _ => T = "int"
  | .ref p => (T = "list" ∧ ∃ xs, SqL K H p xs) ∨ (T = "tuple" ∧ ∃ o, K.lookup p = some o ∧ o.cls = .type "tuple" ∧ o.dict = none) ∨
      (T = "dict" ∧ ((∃ kvs, H p = some (.dK kvs)) ∨ ∃ kvs, H p = some (.dT kvs))) ∨ (T = "set" ∧ ∃ S n, H p = some (.set S n))
  | _ => False
theorem tyV_is {pins : List (Addr × Obj)} {σ : St} {H : Hp} {s : Shared} {T : String} {x : V} {v : Value} (I : Inv X pins σ H s) (r : RelV x v) (ty : tyV X.K T x H) :
    s.TypeIs v T ∧ ∀ a, v = .ref a → ∃ ob, s.heap.get? a = some ob ∧ ob.dict = none := by
  cases x with
  | str z =>
    obtain ⟨t, rfl⟩ := r
    cases (show T = "str" from ty)
    exact ⟨typeIs_str s z t, fun _ e => nomatch e⟩
  | int i =>
    obtain ⟨t, rfl⟩ := r
    cases (show T = "int" from ty)
    exact ⟨typeIs_int s i t, fun _ e => nomatch e⟩
  | ref p =>
    cases r
    rcases ty with ⟨rfl, xs, hq⟩ | ⟨rfl, o, hk, hc, hd⟩ | ⟨rfl, hk⟩ | ⟨rfl, S, n, hk⟩
    · obtain ⟨its, _, pl, _⟩ := I.list hq
      refine ⟨pl.isList.typeIs, fun a e => ?_⟩
      cases e
      obtain ⟨o, n, e, c, hd, _⟩ := pl
      exact ⟨o, e, hd⟩
    · refine ⟨⟨o, I.kIn p o hk, hc⟩, fun a e => ?_⟩
      cases e
      exact ⟨o, I.kIn _ o hk, hd⟩
    · have z : ∃ o, s.heap.get? p = some o ∧ o.ExactDict := by
        rcases hk with ⟨kvs, hk⟩ | ⟨kvs, hk⟩
        · obtain ⟨_, _, _, _, o, _, _, e, ex, _⟩ := I.hok p _ hk
          exact ⟨o, e, ex⟩
        · obtain ⟨_, _, _, _, o, _, _, e, ex, _⟩ := I.hok p _ hk
          exact ⟨o, e, ex⟩
      obtain ⟨o, e, ex⟩ := z
      refine ⟨⟨o, e, ex.1⟩, fun a e2 => ?_⟩
      cases e2
      exact ⟨o, e, ex.2.1⟩
    · obtain ⟨o, _, _, _, e, ex, _⟩ := I.hok p _ hk
      refine ⟨⟨o, e, ex.1⟩, fun a e2 => ?_⟩
      cases e2
      exact ⟨o, e, ex.2.1⟩
  | _ => exact False.elim ty
def tBM (K : PySem.W.Frag) (T : String) (r : V → List V → Hp → VK → Prop) (to : TE) (t : TA) : TE := fun σ H Q => to σ H fun x H1 => tyV K T x H1 ∧ t σ H1 fun xs H2 => r x xs H2 Q
variable {o e : Expr} {es : List Expr} {to : TE} {t : TA} {name : Str} {apos cpos : Pos} {T id : String} {r : V → List V → Hp → VK → Prop}
theorem pe_bm (pa : PlainAttrs T) (slot : Slot T name id) (hty : typeOf (.builtin id) = pure (.type "method_descriptor")) (hm : MtR X id r) (ho : PE X o to) (ha : PA X (e :: es) t)
    (hbase : attributeBase o name X.env (eval o X.env) = eval o X.env := by rfl)
    (hfew : ((backTo cpos (starEach (e :: es) X.env)).all (fun x => !x.1) && (backToKw cpos (keywordEach [] X.env)).all (fun x => x.1.isSome)
      && decide ((e :: es).length + ([] : List Keyword).length + (if ([] : List Keyword).isEmpty then 0 else 1) < 30)) = true := by rfl)
    (hline : (apos.endLine == cpos.line) = true := by rfl) (hs : starEach (e :: es) X.env = (false, eval e X.env) :: starEach es X.env := by rfl) (hplain : (backTo cpos (starEach es X.env)).any (·.1) = false := by rfl) :
    PE X (.Call (.Attribute o name apos) (e :: es) [] cpos) (tBM X.K T r to t) := by
  intro pins s σ H Q I h
  refine wpAny_Call_method_late hbase hfew hline rfl (thn (ho pins s σ H _ I h) fun v s1 ⟨x, H1, I1, r1, ty, q1⟩ => ?_)
  obtain ⟨h1, h2⟩ := tyV_is I1 r1 ty
  refine ⟨T, id, pa, slot, hty, h1, h2, ?_⟩
  have hA := ha cpos pins s1 σ H1 _ I1 q1
  rw [hs] at hA ⊢
  refine Calls.callWith_builtin (by show (false || (backTo cpos (starEach es X.env)).any (·.1)) = false; rw [hplain] <;> rfl) (Calls.evalArgs_plain ?_)
  exact thn hA fun us s2 ⟨vs, H2, I2, r2, q2⟩ => hm pins s2 σ H2 x vs v us Q I2 r1 r2 q2
end
end L2
namespace L2
open PySem PySem.Spec PyProof.Rows
def MtM (X : Cx) (id : String) (r : V → List V → Hp → VK → Prop) : Prop :=
  ∀ (pins : List (Addr × Obj)) (s : Shared) (σ : St) (H : Hp) (x : V) (xs : List V) (v : Value) (us : List Value) (Q : VK), Inv X pins σ H s → RelV x v → Vals xs us → r x xs H Q →
    wpAny (model X.prog X.w) X.A (call (.builtin id) (v :: us)) (EP X pins σ Q) X.xe s
theorem Vals.one : ∀ {x : V} {us : List Value}, Vals [x] us → ∃ u, us = [u] ∧ RelV x u
  | _, _, .cons r .nil => ⟨_, rfl, r⟩
theorem Vals.rep {xs : List V} {us : List Value} (h : Vals xs us) : ∀ k : Nat, Vals (List.replicate k xs).flatten (List.replicate k us).flatten
  | 0 => .nil
  | k + 1 => by
    rw [List.replicate_succ, List.replicate_succ, List.flatten_cons, List.flatten_cons]
    exact Vals.append h (Vals.rep h k)
theorem foldl_rep (its : List Value) : ∀ (k : Nat) (acc : List Value),
    List.foldl (fun x1 x2 => x1 ++ x2) acc.toArray (List.replicate k its.toArray) = (acc ++ (List.replicate k its).flatten).toArray
  | 0, acc => by simp
  | k + 1, acc => by
    have e : acc.toArray ++ its.toArray = (acc ++ its).toArray := by simp
    have e2 : (acc ++ its) ++ (List.replicate k its).flatten = acc ++ (List.replicate (k + 1) its).flatten := by
      rw [List.replicate_succ, List.flatten_cons, List.append_assoc]
    rw [← e2, ← foldl_rep its k (acc ++ its), ← e, List.replicate_succ, List.foldl_cons]
section
variable {X : Cx} {pins : List (Addr × Obj)} {σ : St} {H : Hp} {s : Shared} {l b : Addr} {xs ys zs : List V}
theorem Inv.lset {its its' : List Value} {n : Nat} {f : Array Value → Array Value} {t' : Nat} (I : Inv X pins σ H s) (hH : H l = some (.lst xs))
    (e : s.heap.get? l = some { cls := .type "list", data := .seq its.toArray n }) (hf : f its.toArray = its'.toArray) (hv : Vals ys its') (hz : ys.length ≤ sizeLine) :
    Inv X pins σ (upd H l (.lst ys)) { s with heap := s.heap.update l (Obj.mapSeq f), toks := t' } := by
  have q := PySem.IsL.update e f
  rw [hf] at q
  refine I.write (x := l) (e := l) (by rw [hH]; exact trivial) (.inl rfl) (fun b' u hb hu => (Heap.get?_update_other s.heap (Obj.mapSeq f) (Ne.symm hb)).trans hu) ⟨_, q⟩ ?_
  exact ⟨hz, its', _, hv, q⟩
theorem Inv.lnew {its : List Value} {t' : Nat} (I : Inv X pins σ H s) (hv : Vals ys its) (hz : ys.length ≤ sizeLine) :
    Inv X pins σ (upd H s.heap.objs.size (.lst ys)) { s with heap := s.heap.push { cls := .type "list", data := .seq its.toArray }, toks := t' } :=
  I.laid (fun _ _ q => Heap.get?_push_of_some _ q) (Nat.le_refl _) ⟨hz, its, 0, hv, Heap.get?_push_size _ rfl⟩
theorem Inv.fresh (I : Inv X pins σ H s) : H s.heap.objs.size = none := I.hok.fresh (Nat.le_refl _)
theorem Inv.lstM (I : Inv X pins σ H s) (hH : H l = some (.lst xs)) : xs.length ≤ sizeLine ∧ ∃ (its : List Value) (n : Nat), Vals xs its ∧ xs.length = its.length ∧ s.heap.get? l = some { cls := .type "list", data := .seq its.toArray n } := by
  obtain ⟨z, its, n, r, e⟩ := I.hok l _ hH
  exact ⟨z, its, n, r, r.length, e⟩
theorem notLongL {n : Nat} (h : n ≤ sizeLine) : Builtin.List.listTooLong n = false := by
  unfold Builtin.List.listTooLong
  exact decide_eq_false (by omega)
end
section
variable {X : Cx}
def rAppend : V → List V → Hp → VK → Prop := fun x vs H Q => ∃ l xs y, x = .ref l ∧ vs = [y] ∧ H l = some (.lst xs) ∧ xs.length < sizeLine ∧ Q .non (upd H l (.lst (xs ++ [y])))
theorem mt_append : MtM X "list.append" rAppend := by
  intro pins s σ H x vs v us Q I rx rv h
  obtain ⟨l, xs, y, rfl, rfl, hH, hz, q⟩ := h
  cases rx
  obtain ⟨u, rfl, ru⟩ := rv.one
  obtain ⟨z, its, n, r, hl, e⟩ := I.lstM hH
  refine call_meets F.slot_list_append ⟨_, e, rfl⟩ F.entry_list_append (F.args_list_append_2 _ _) (PySem.list_append l its.toArray n u (by rw [List.size_toArray]; omega)) ⟨e, ?_⟩
  refine ⟨.non, _, I.lset (its' := its ++ [u]) hH e (by simp) (r.append (.cons ru .nil)) ?_, rfl, q⟩
  rw [List.length_append, List.length_singleton]
  omega
def rCat : R2 := fun x y H Q => ∃ l b xs zs, x = .ref l ∧ y = .ref b ∧ H l = some (.lst xs) ∧ H b = some (.lst zs) ∧ xs.length + zs.length ≤ sizeLine ∧ ∀ p, H p = none → Q (.ref p) (upd H p (.lst (xs ++ zs)))
theorem op_cat : OpR X (binaryOp .Add) rCat := by
  intro pins s σ H x y v u Q I rx ry h
  obtain ⟨l, b, xs, zs, rfl, rfl, hH, hB, hz, q⟩ := h
  cases rx
  cases ry
  obtain ⟨z, its, n, r, hl, e⟩ := I.lstM hH
  obtain ⟨z2, its2, n2, r2, hl2, e2⟩ := I.lstM hB
  refine PySem.P.add_list e e2 ?_ (by rw [List.size_toArray, List.size_toArray]; omega)
  have ea : its.toArray ++ its2.toArray = (its ++ its2).toArray := by simp
  rw [ea]
  exact ⟨.ref _, _, I.lnew (t' := s.toks) (r.append r2) (by rw [List.length_append]; omega), rfl, q _ I.fresh⟩
def rRep : R2 := fun x y H Q => ∃ l k xs, x = .ref l ∧ y = .int k ∧ H l = some (.lst xs) ∧ -(2 ^ 63) ≤ k ∧ k < 2 ^ 63 ∧ xs.length * k.toNat ≤ sizeLine ∧
  ∀ p, H p = none → Q (.ref p) (upd H p (.lst (List.replicate k.toNat xs).flatten))
theorem len_rep {α : Type} (xs : List α) (k : Nat) : (List.replicate k xs).flatten.length = k * xs.length := by
  induction k with
  | zero => simp
  | succ k ih => rw [List.replicate_succ, List.flatten_cons, List.length_append, ih, Nat.succ_mul, Nat.add_comm]
theorem op_rep : OpR X (binaryOp .Mult) rRep := by
  intro pins s σ H x y v u Q I rx ry h
  obtain ⟨l, k, xs, rfl, rfl, hH, h1, h2, hz, q⟩ := h
  cases rx
  obtain ⟨t, rfl⟩ := ry
  obtain ⟨z, its, n, r, hl, e⟩ := I.lstM hH
  have hlen : its.toArray.size * k.toNat ≤ sizeLine := by rw [List.size_toArray, ← hl]; exact hz
  have hcap : ¬ its.toArray.size * k.toNat > (2 ^ 63 - 1) / 8 := by
    have : (sizeLine : Nat) ≤ (2 ^ 63 - 1) / 8 := by decide
    omega
  have hfit : ¬ (!Builtin.List.listFitsIndex k) = true := by
    rw [fitsIndex_both h1 h2]
    exact Bool.false_ne_true
  have hlong : ¬ Builtin.List.listTooLong (its.toArray.size * k.toNat) = true := by
    rw [notLongL hlen]
    exact Bool.false_ne_true
  have hnew : List.foldl (fun x1 x2 => x1 ++ x2) #[] (List.replicate (if its.toArray.isEmpty = true then 0 else k.toNat) its.toArray) = (List.replicate k.toNat its).flatten.toArray := by
    have f0 : ∀ m : Nat, List.foldl (fun x1 x2 => x1 ++ x2) #[] (List.replicate m its.toArray) = (List.replicate m its).flatten.toArray := fun m => by
      have := foldl_rep its m []
      rw [List.nil_append] at this
      exact this
    rw [f0]
    cases its with
    | nil => simp
    | cons a r' => rw [if_neg (by simp)]
  refine wpAny_binaryOp_repeat_ref (T := "list") (U := "int") (by decide) ⟨_, e, rfl⟩ (fun s' => typeIs_int s' k t) noFill_list_mul F.fills_int_mul F.slot_int_rmul repeat_list F.slot_int_index.lookup
    (call_meets F.slot_int_rmul (typeIs_int s k t) F.entry_int_rmul (F.args_int_rmul_2 _ _) (int___rmul___int_list k t l its.toArray n)
      ⟨e, rfl, ⟨_, e, rfl⟩, call_meets F.slot_list_mul ⟨_, e, rfl⟩ F.entry_list_mul (F.args_list_mul_2 _ _) (AutoListH.list___mul___list_int_3 l its.toArray n k t hfit hcap hlong) ⟨e, ?_⟩⟩)
  rw [hnew]
  exact ⟨.ref _, _, I.lnew (t' := s.toks) (r.rep k.toNat) (by rw [len_rep, Nat.mul_comm]; exact hz), rfl, q _ I.fresh⟩
end
end L2
namespace Att
open PySem PySem.W PySem.Calls PyProof.Rows
theorem ints_of_wellAll {P : Params} {h : Heap} : ∀ (ns : List Int) (vs : List Value), WellAll P h vs (ns.map WData.int) → IntsAre vs ns := by
  intro ns
  induction ns with
  | nil =>
    intro vs w
    rw [List.map_nil] at w
    cases w
    exact .nil
  | cons n ns ih =>
    intro vs w
    rw [List.map_cons] at w
    cases w with
    | cons a b =>
      cases a
      exact .cons _ _ (ih _ b)
theorem script_of {l : OpenLaw} {n : Nat} (hn : l.most = some n) {P : Params} {h : Heap} {args : List WData} {vals : List Value}
    (hpre : l.row.toRowW.claim.pre args = true) (hwl : WellAll P h vals args) :
    ∃ a vs ns, vals = [Value.ref a] ∧ args = [WData.list (ns.map WData.int)] ∧ h.get? a = some { cls := .type "list", data := .seq vs.toArray } ∧ IntsAre vs ns ∧ ns.length ≤ n := by
  have hsh : WShape.hasAll [] args [.list .int] = true := (pre_splitW hpre).1
  have hc : l.pre.holds [] { args := args } = true := (pre_splitW hpre).2
  obtain ⟨d, r, rfl, h1, h2⟩ := hasAllW_cons hsh
  obtain rfl := hasAllW_nil h2
  obtain ⟨xs, rfl, h3⟩ := hasW_list h1
  obtain ⟨ns, rfl⟩ := items_int h3
  have hlen : ns.length ≤ n := by
    unfold OpenLaw.pre at hc
    have h4 : (WTm.not (.lt (.lit (.int (n : Int))) (.len (.arg 0)))).holds [] { args := [.list (ns.map .int)] } = true := by
      have h4 := (holds_andW hc).1
      rw [hn] at h4
      exact h4
    have h5 := condW_of h4 (w_not (w_lt w_lit (w_len_list (w_arg rfl))))
    rw [List.length_map] at h5
    refine Nat.le_of_not_lt fun q => ?_
    have q' : (n : Int) < ((ns.length : Nat) : Int) := by omega
    first
      | (rw [decide_eq_true q'] at h5; exact absurd h5 (by decide))
      | (simp at h5; omega)
  cases hwl with
  | cons w1 w2 =>
    cases w2
    cases w1 with
    | list ho hall => exact ⟨_, _, ns, rfl, rfl, ho, ints_of_wellAll ns _ hall, hlen⟩
theorem post_true (l : OpenLaw) (args : List WData) : l.row.toRowW.claim.post args (.bool true) args = true :=
  postW_of (r := l.row.toRowW) (X := (true == true))
    (show WShape.has [] (.bool true) .bool = true by first | rfl | decide | simp [WShape.has, WShape.arms, WShape.armsAll])
    (show (WTm.eq .res (.lit (.bool true))).value [] { args := args, res := some (.bool true), after := args } = some (.bool (true == true)) from w_eq_bool (w_res rfl) w_lit) rfl
theorem attach_call {l : OpenLaw} {n : Nat} {q : Program} {loose : List Str} {XP : (Str → Option Value) → Heap → Prop} {YP : World → Heap → Prop} {d : DefRec}
    (hn : l.most = some n) (hdf : d.params.defaults = [])
    (call : ∀ (w : World) (s₀ s₁ : Shared) (mg mb : Str → Option Value) (fa : Addr) (o : Obj) (pm cd doc : Value) (a : Addr) (vs : List Value) (ns : List Int),
      Ground q loose [] XP w s₀ mg mb s₁.heap → YP w s₁.heap →
      s₁.heap.get? fa = some o → o.data = .func (docDef d.name d.params d.body d.scope pm cd doc) → s₁.heap.CodeRec cd d.name → mg d.name = some (.ref fa) →
      s₁.heap.get? a = some { cls := .type "list", data := .seq vs.toArray } → IntsAre vs ns → ns.length ≤ n → s₁.gens = #[] →
      codeAny (model l.prog w) callerA (.call (.ref fa) ⟨[.ref a], []⟩) (fun r s' => r = .ok (.ret (.bool true)) ∧ OldK s₁.heap s'.heap ∧ s'.os = s₁.os ∧ AllBare s'.gens) s₁) :
    WalkO q loose XP YP l.row.toRowW d [] (fun f vs => PySem.call f vs) := by
  intro w s₀ s₁ mg mb G Y fa o pm cd doc dV kV ho hd hcd hD hmg hg args vals as hpre hlay hrd hwl hlo
  obtain rfl : dV = .none := Dflts.none hD hdf
  obtain rfl : kV = .none := Dflts.noKw hD
  obtain ⟨a, vs, ns, rfl, rfl, hobj, hints, hlen⟩ := script_of hn hpre hwl
  refine enter_call (codeAny_mono (call w s₀ s₁ mg mb fa o pm cd doc a vs ns G Y ho (fd_plain hd) hcd hmg hobj hints hlen hg) fun r s' hq => ?_)
  obtain ⟨rfl, h2, h3, h4⟩ := hq
  exact ⟨.inl ⟨.bool true, .bool true, [], rfl, fun _ => rfl, .bool true, post_true l _, fun _ => ⟨List.Pairwise.nil, fun _ hm => (nomatch hm)⟩⟩, h2, h3, h4⟩
end Att
namespace L2
open PySem PySem.Spec PyProof.Rows
theorem vals_ints : ∀ {vs : List Value} {ns : List Int}, IntsAre vs ns → Vals (ns.map V.int) vs
  | _, _, .nil => .nil
  | _, _, .cons n t h => .cons ⟨t, rfl⟩ (vals_ints h)
def Only (H : Hp) : Prop := ∀ b, H b = none ∨ ∃ o xs, H b = some (.frz o (.lst xs))
theorem law_call {P : Program} {w : World} {K : PySem.W.Frag} {mg mb : Str → Option Value} {CX : CXT} {k : Nat} {fa a : Addr} {fd : FuncData} {x : Str} {sp : Sp} {s₁ : Shared} {vs : List Value} {ns : List Int}
    (KX : K.In s₁.heap) (hns : s₁.heap.Ns mainGlobals mg) (hb : s₁.heap.Ns builtinsNs mb) (hbb : ∀ x : Str, x ≠ "__name__" → mb x = bootBuiltins x) (hlim : s₁.heap.NoLimit) (hg : s₁.gens = #[])
    (ha : s₁.heap.get? a = some { cls := .type "list", data := .seq vs.toArray }) (hi : IntsAre vs ns) (hl : ns.length ≤ sizeLine) (hr : Room k callerA)
    (F : ∀ base : Heap, K.In base → base.Ns mainGlobals mg → FnOk P w K mg base CX k fa fd [x] sp) (hbind : ∀ (s : Shared) (u : Value), BindsTo s fd ⟨[u], []⟩ [(x, u)])
    (hsp : ∀ H : Hp, Only H → SqL K H a (ns.map V.int) → sp [.ref a] H (fun v _ => v = .bl true) fun _ _ _ => False)
    (hCX : ∀ H e s', CX [] H s₁ (fun _ _ _ => False) e s' → False) :
    codeAny (model P w) callerA (.call (.ref fa) ⟨[.ref a], []⟩) (fun r s' => r = .ok (.ret (.bool true)) ∧ OldK s₁.heap s'.heap ∧ s'.os = s₁.os ∧ AllBare s'.gens) s₁ := by
  have rv := vals_ints hi
  have lenV := hi.length
  -- from an abstract heap in which nothing but the script may be tracked
  have core : ∀ H : Hp, Only H → SqL K H a (ns.map V.int) → HOk P w H s₁.heap → (∀ b, H b ≠ none → b = a) → (H a ≠ none → K.lookup a = none) →
      codeAny (model P w) callerA (.call (.ref fa) ⟨[.ref a], []⟩) (fun r s' => r = .ok (.ret (.bool true)) ∧ OldK s₁.heap s'.heap ∧ s'.os = s₁.os ∧ AllBare s'.gens) s₁ := by
    intro H hO hS hok hA hK
    have base_of : ∀ {b : Addr} {o : Obj}, s₁.heap.get? b = some o → H b = none → (hidT s₁.heap H).get? b = some o := fun e n => hidT_get e n
    have noA : ∀ {b : Addr} {o : Obj} {es : Array DictEntry} {ep : Nat}, s₁.heap.get? b = some o → o.data = .dict es ep → H b = none := fun {b o es ep} e d => by
      cases q : H b with
      | none => rfl
      | some u =>
        have e' : b = a := hA b (by rw [q]; simp)
        subst e'
        rw [ha] at e; cases e
        have d' : Data.seq vs.toArray _ = Data.dict es ep := d
        cases d'
    have nsK : ∀ {b : Addr} {m : Str → Option Value}, s₁.heap.Ns b m → (hidT s₁.heap H).Ns b m := fun {b m} ⟨o, es, ep, e, d, r⟩ => ⟨o, es, ep, base_of e (noA e d), d, r⟩
    have hKb : K.In (hidT s₁.heap H) := fun b o e => base_of (KX b o e) (by
      cases q : H b with
      | none => rfl
      | some u =>
        have e' : b = a := hA b (by rw [q]; simp)
        subst e'
        rw [hK (by rw [q]; simp)] at e; cases e)
    have hM : Mod K mg (hidT s₁.heap H) := ⟨hKb, nsK hns, ⟨mb, nsK hb, hbb⟩, let ⟨mc, h1, h2⟩ := hlim; ⟨mc, nsK h1, h2⟩⟩
    have e0 : Env0 P w K mg (hidT s₁.heap H) callerA [] s₁ H := ⟨rfl, hM, fun b o e => of_hidT e, Nat.le_of_eq (hidT_size _ _), trivial, fun b hb => absurd (show b ∈ ([] : List Addr) from hb) (by simp), hok, .of_eq hg⟩
    refine codeAny_mono ((F _ hKb (nsK hns)).run callerA [] s₁ H ⟨[.ref a], []⟩ [.ref a] [.ref a] _ _ hr e0 (hbind s₁ (.ref a)) (.cons rfl .nil) (hsp H hO hS)) fun r s' h => ?_
    cases r with
    | error e => exact (hCX H e s' h).elim
    | ok fl =>
      cases fl with
      | next => exact False.elim h
      | brk => exact False.elim h
      | cont => exact False.elim h
      | ret u =>
        obtain ⟨v, H', os, bare, un, hok', r', q⟩ := h
        have q' : v = .bl true := q
        subst q'
        obtain rfl : u = Value.bool true := r'
        refine ⟨rfl, OldK.of_keep fun b o e => ?_, os, bare⟩
        cases q : H b with
        | none => exact un.keep b o e q (by intro z; exact absurd (show b ∈ ([] : List Addr) from z) (by simp)) (by simp)
        | some u =>
          rcases hO b with z | ⟨ob, xs, z⟩
          · rw [q] at z; cases z
          · have z2 := un.frzs b ob _ z
            obtain ⟨e1, _⟩ := hok b _ z
            obtain ⟨e2, _⟩ := hok' b _ z2
            rw [e] at e1; cases e1
            exact e2
  cases hk : K.lookup a with
  | some o =>
    -- the script is one of the module's own objects
    have e := KX a o hk
    rw [ha] at e
    cases e
    refine core (fun _ => none) (fun _ => .inl rfl) (.inr ⟨_, vs.toArray, _, hk, rfl, rfl, rfl, by rw [List.size_toArray, lenV]; exact hl, by simpa using rv⟩) (fun b u z => by have z' : (none : Option HO) = some u := z; cases z') (fun b z => absurd rfl z) fun z => absurd rfl z
  | none =>
    refine core (fun b => if b = a then some (.frz { cls := .type "list", data := .seq vs.toArray } (.lst (ns.map V.int))) else none) (fun b => ?_) (.inl (.inr ⟨{ cls := .type "list", data := .seq vs.toArray }, if_pos rfl⟩)) (fun b u z => ?_) (fun b z => ?_) fun _ => hk
    · by_cases hb : b = a
      · exact .inr ⟨_, _, if_pos hb⟩
      · exact .inl (if_neg hb)
    · by_cases hb : b = a
      · have z' := (if_pos hb).symm.trans z
        cases z'
        subst hb
        exact ⟨ha, by rw [List.length_map]; exact hl, vs, _, rv, ha⟩
      · have z' := (if_neg hb).symm.trans z
        cases z'
    · by_cases hb : b = a
      · exact hb
      · exact absurd (if_neg hb) z
end L2
namespace L2
open PySem PySem.Spec PyProof.Rows
abbrev KOf {K : PySem.W.Frag} {h : Heap} (_ : K.In h) : PySem.W.Frag := K
theorem walk_of {l : PySem.W.OpenLaw} {n k : Nat} {q : Program} {loose : List Str} {XP : (Str → Option Value) → Heap → Prop} {YP : World → Heap → Prop} {d : DefRec} {K : Params → PySem.W.Frag} {CX : World → CXT} {sp : World → Sp} {x : Str}
    (hn : l.most = some n) (hn2 : n ≤ sizeLine) (hdf : d.params.defaults = []) (hr : Room k callerA)
    (hY : ∀ (w : World) (h : Heap), YP w h → (K w.params).In h)
    (F : ∀ (w : World) (mg : Str → Option Value) (fa : Addr) (h : Heap), (K w.params).In h → h.Ns mainGlobals mg → mg d.name = some (.ref fa) →
      ∃ fd : FuncData, (∀ (s : Shared) (u : Value), BindsTo s fd ⟨[u], []⟩ [(x, u)]) ∧
        ∀ base : Heap, (K w.params).In base → base.Ns mainGlobals mg → FnOk l.prog w (K w.params) mg base (CX w) k fa fd [x] (sp w))
    (hsp : ∀ (w : World) (H : Hp) (a : Addr) (ns : List Int), ns.length ≤ n → Only H → SqL (K w.params) H a (ns.map V.int) → sp w [.ref a] H (fun v _ => v = .bl true) fun _ _ _ => False)
    (hCX : ∀ (w : World) (H : Hp) (s : Shared) (e : Value) (s' : Shared), CX w [] H s (fun _ _ _ => False) e s' → False) :
    PySem.W.WalkO q loose XP YP l.row.toRowW d [] (fun f vs => PySem.call f vs) := by
  refine Att.attach_call hn hdf fun w s₀ s₁ mg mb fa o pm cd doc a vs ns G Y ho hd hcd hmg hobj hints hlen hg => ?_
  have KX := hY w _ Y
  obtain ⟨fd, hb, hF⟩ := F w mg fa _ KX G.T.g hmg
  exact law_call KX G.T.g G.T.b G.T.builtins G.T.nolimit hg hobj hints (Nat.le_trans hlen hn2) hr hF hb (fun H hO hS => hsp w H a ns hlen hO hS) fun H e s' => hCX w H s₁ e s'
end L2
namespace L2
open PySem PySem.Spec PyProof.Rows
def inClass (s : Stmt) (j : Nat) : Stmt := match s with
  | .ClassDef _ _ _ body _ _ _ _ _ _ _ => body.getD j (.Pass ⟨0, 0, 0, 0⟩)
  | _ => .Pass ⟨0, 0, 0, 0⟩
def defArgs (s : Stmt) : Arguments := match s with
  | .FunctionDef _ a _ _ _ _ _ _ _ _ => a
  | _ => { posonlyargs := [], args := [], vararg := none, kwonlyargs := [], kw_defaults := [], kwarg := none, defaults := [] }
def defBody (s : Stmt) : List Stmt := match s with
  | .FunctionDef _ _ b _ _ _ _ _ _ _ => b
  | _ => []
def defScope (s : Stmt) : Scope := match s with
  | .FunctionDef _ _ _ _ _ _ sc _ _ _ => sc
  | _ => { kind := .function, names := [], isGenerator := false, isCoroutine := false }
abbrev E0 : XK := fun _ _ _ => False
structure Fun (K : PySem.W.Frag) (x qual : Str) (st : Stmt) (f : Addr) (fd : FuncData) : Prop where
  ex : ∃ (oc : Value) (od : Option Addr) (kV doc pm : Value) (an : Option Addr) (cdv ct : Value) (osl : Array (Option Value)),
    fd = PySem.W.fnOf x qual (defArgs st) (defBody st) (defScope st) .none kV doc pm an cdv ct ∧ K.lookup f = some ⟨oc, od, .func fd, osl⟩ ∧ PySem.W.codeIn K cdv qual = true
  kp : PySem.W.keepIn K (.ref f) = true
section
variable {P : Program} {w : World} {K : PySem.W.Frag} {mg : Str → Option Value} {base : Heap}
theorem Fun.binds {x qual : Str} {st : Stmt} {f : Addr} {fd : FuncData} {ps : List Str} (F : Fun K x qual st f fd)
    (h : ∀ (kV doc pm : Value) (an : Option Addr) (cdv ct : Value) (us : List Value), us.length = ps.length → bindArgs (PySem.W.fnOf x qual (defArgs st) (defBody st) (defScope st) .none kV doc pm an cdv ct) ⟨us, []⟩ = pure (ps.zip us)) : Binds K fd ps [] := by
  obtain ⟨oc, od, kV, doc, pm, an, cdv, ct, osl, rfl, lk, hcd⟩ := F.ex
  exact .all (h kV doc pm an cdv ct)
theorem fun_mk {x qual : Str} {st : Stmt} {f : Addr} {oc : Value} {od an : Option Addr} {osl : Array (Option Value)} {kV doc pm cdv ct : Value} (l : K.lookup f = some ⟨oc, od, .func (PySem.W.fnOf x qual (defArgs st) (defBody st) (defScope st) .none kV doc pm an cdv ct), osl⟩)
    (c : PySem.W.codeIn K cdv qual = true) (k : PySem.W.keepIn K (.ref f) = true) : Fun K x qual st f (PySem.W.fnOf x qual (defArgs st) (defBody st) (defScope st) .none kV doc pm an cdv ct) := ⟨⟨oc, od, kV, doc, pm, an, cdv, ct, osl, rfl, l, c⟩, k⟩
end
theorem small1000 {n : Nat} (h : n ≤ 1000) : n < sizeLine := Nat.lt_of_le_of_lt h (by decide)
section
variable {X : Cx}
theorem pv (i : Nat) {x : Str} {pos : Pos} (hN : X.N[i]? = some x := by rfl) (hv : Vis X.env.scope x := by first | exact Or.inl rfl | exact Or.inr (Or.inl rfl) | exact Or.inr (Or.inr rfl)) (hd : (x == ("__debug__" : Str)) = false := by decide)
    (hcd : (x == ("__classdict__" : Str)) = false := by decide) : PE X (.Name x pos) (tVar i) := pe_var hN hv hd hcd
end
theorem iteF {A B : Prop} (h : B) : if false = true then A else B := by
  rw [if_neg Bool.false_ne_true]
  exact h
theorem iteT {A B : Prop} (h : A) : if true = true then A else B := by
  rw [if_pos rfl]
  exact h
theorem ite2 {c A B : Prop} [Decidable c] (h1 : c → A) (h2 : ¬ c → B) : if c then A else B := by
  by_cases h : c
  · rw [if_pos h]
    exact h1 h
  · rw [if_neg h]
    exact h2 h
def Same (H H' : Hp) : Prop := ∀ b o, H b = some o → H' b = some o
theorem Same.refl (H : Hp) : Same H H := fun _ _ h => h
theorem Same.trans {H H1 H2 : Hp} (a : Same H H1) (b : Same H1 H2) : Same H H2 := fun c o h => b c o (a c o h)
theorem Same.free {H H' : Hp} (e : Same H H') {l : Addr} (h : H' l = Option.none) : H l = Option.none := by
  cases q : H l with
  | none => rfl
  | some o =>
    rw [e l o q] at h
    cases h
theorem Same.seq {K : PySem.W.Frag} {H H' : Hp} {a : Addr} {xs : List V} (e : Same H H') (h : SqL K H a xs) : SqL K H' a xs := by
  rcases h with (h | ⟨o, h⟩) | h
  · exact .inl (.inl (e _ _ h))
  · exact .inl (.inr ⟨o, e _ _ h⟩)
  · exact .inr h
end L2
namespace L2
open PySem PySem.Spec PyProof.Rows
section
variable {X : Cx}
def CDivW (_ j : Int) : Prop := j ≠ 0 ∧ j.natAbs.log2 < 9000
theorem op_fdivW : OpR X (binaryOp .FloorDiv) (rI CDivW fun i j => .int (i.fdiv j)) := opI fun _ _ _ _ _ _ _ hc q => floordiv_int hc.1 q (.inl (PyProof.noPylong_of_log2 hc.2))
theorem bits_le {i : Int} {k : Nat} (h : i.natAbs < 2 ^ k) : Builtin.Int.intBits i ≤ k := by
  unfold Builtin.Int.intBits
  split
  · exact Nat.zero_le _
  · rename_i z
    have z' : i.natAbs ≠ 0 := fun e => z (beq_iff_eq.mpr (Int.natAbs_eq_zero.mp e))
    exact (Nat.log2_lt z').mpr h
def CMulW (i j : Int) : Prop := i.natAbs < 2 ^ 10000 ∧ j.natAbs < 2 ^ 10000
theorem CMulW.ok {i j : Int} (h : CMulW i j) : IntMulOk i j := .of_bits (Nat.le_trans (bits_le h.1) (by decide)) (Nat.le_trans (bits_le h.2) (by decide))
theorem op_mulW : OpR X (binaryOp .Mult) (rI CMulW fun i j => .int (i * j)) := opI fun _ _ _ _ _ _ _ hc q => mul_int q hc.ok
end
mutual
inductive DV (K : PySem.W.Frag) (H : Hp) : V → PyData → Prop
  | non : DV K H .non .none
  | bl (b : Bool) : DV K H (.bl b) (.bool b)
  | int (i : Int) : DV K H (.int i) (.int i)
  | str (x : Str) : DV K H (.str x) (.str x)
  | lst {a : Addr} {xs : List V} {ds : List PyData} : SqL K H a xs → DVs K H xs ds → DV K H (.ref a) (.list ds)
  | tup {a : Addr} {xs : List V} {ds : List PyData} : SqT K H a xs → DVs K H xs ds → DV K H (.ref a) (.tuple ds)
  | dct {a : Addr} {kvs : List (Key × V)} : H a = some (.dK kvs) → DV K H (.ref a) (.dict [])
inductive DVs (K : PySem.W.Frag) (H : Hp) : List V → List PyData → Prop
  | nil : DVs K H [] []
  | cons {v : V} {vs : List V} {d : PyData} {ds : List PyData} : DV K H v d → DVs K H vs ds → DVs K H (v :: vs) (d :: ds)
end
section
variable {X : Cx} {pins : List (Addr × Obj)} {σ : St} {H : Hp} {s : Shared}
mutual
theorem DV.reads (I : Inv X pins σ H s) : ∀ {v : V} {d : PyData}, DV X.K H v d → d.canLay0 = true → ∀ {u : Value}, RelV v u → ∃ as, Reads s.heap u d as
  | _, _, .non, _, _, r => by cases r; exact ⟨_, .none⟩
  | _, _, .bl b, _, _, r => by cases r; exact ⟨_, .bool b⟩
  | _, _, .int i, _, _, r => by obtain ⟨t, rfl⟩ := r; exact ⟨_, .int i t⟩
  | _, _, .str x, _, _, r => by obtain ⟨t, rfl⟩ := r; exact ⟨_, .str x t⟩
  | _, _, .lst h q, c, _, r => by
    cases r
    obtain ⟨its, rv, pl, _⟩ := I.list h
    obtain ⟨as, ra⟩ := DVs.reads I q c rv
    obtain ⟨o, ho, hc, n, hd⟩ := id pl.isList
    exact ⟨_, .list ho hc hd ra⟩
  | _, _, .tup h q, c, _, r => by
    cases r
    obtain ⟨its, rv, pl, _⟩ := I.tuple h
    obtain ⟨as, ra⟩ := DVs.reads I q c rv
    obtain ⟨o, ho, hc, n, hd⟩ := id pl
    exact ⟨_, .tuple ho hc hd ra⟩
  | _, _, .dct h, c, _, r => nomatch c
theorem DVs.reads (I : Inv X pins σ H s) : ∀ {vs : List V} {ds : List PyData}, DVs X.K H vs ds → PyData.canLayAll0 ds = true → ∀ {us : List Value}, Vals vs us → ∃ as, ReadsAll s.heap us ds as
  | _, _, .nil, _, _, r => by cases r; exact ⟨_, .nil⟩
  | _, _, .cons h q, c, _, r => by
    rw [PyData.canLayAll0] at c
    cases r with
    | cons r1 r2 =>
      obtain ⟨a1, z1⟩ := DV.reads I h (Bool.and_eq_true_iff.mp c).1 r1
      obtain ⟨a2, z2⟩ := DVs.reads I q (Bool.and_eq_true_iff.mp c).2 r2
      exact ⟨_, .cons z1 z2⟩
end
end
section
variable {X : Cx}
def rEqD (K : PySem.W.Frag) : R2 := fun x y H Q => ∃ d e, DV K H x d ∧ DV K H y e ∧ SeqAt.shaped d = true ∧ SeqAt.shaped e = true ∧ Q (.bl (PyData.eqv d e)) H
def rNeD (K : PySem.W.Frag) : R2 := fun x y H Q => ∃ d e, DV K H x d ∧ DV K H y e ∧ SeqAt.shaped d = true ∧ SeqAt.shaped e = true ∧ Q (.bl (!PyData.eqv d e)) H
theorem op_eqD (hu : X.A.units + 64 < cLine) : OpR X (compareOp .Eq) (rEqD X.K) := by
  intro pins s σ H x y v u Q I rx ry h
  obtain ⟨d, e, hd, he, sd, se, q⟩ := h
  obtain ⟨a1, r1⟩ := hd.reads I (SeqAt.canLay_of_shaped sd) rx
  obtain ⟨a2, r2⟩ := he.reads I (SeqAt.canLay_of_shaped se) ry
  exact eq_dataH r1 r2 sd se hu ⟨.bl _, H, I, rfl, q⟩
theorem op_neD (hu : X.A.units + 64 < cLine) : OpR X (compareOp .NotEq) (rNeD X.K) := by
  intro pins s σ H x y v u Q I rx ry h
  obtain ⟨d, e, hd, he, sd, se, q⟩ := h
  obtain ⟨a1, r1⟩ := hd.reads I (SeqAt.canLay_of_shaped sd) rx
  obtain ⟨a2, r2⟩ := he.reads I (SeqAt.canLay_of_shaped se) ry
  exact ne_dataH r1 r2 sd se hu ⟨.bl _, H, I, rfl, q⟩
end
section
variable {X : Cx} {pos : Pos}
theorem Inv.big2 {pins : List (Addr × Obj)} {σ : St} {H : Hp} {s : Shared} (I : Inv X pins σ H s) : sysModules < s.heap.objs.size := by
  have h : mainGlobals < s.heap.objs.size := (I.mod.glob.keeps I.bk).lt
  exact Nat.lt_trans (by decide) h
def tDNew : TE := fun _ H Q => ∀ p, H p = none → Q (.ref p) (upd H p (.dK []))
theorem pe_dnew : PE X (.Dict [] [] pos) tDNew := fun pins s σ H Q I h =>
  wpAny_Dict_empty ⟨.ref s.heap.objs.size, _, I.laid (a := s.heap.objs.size) (o := .dK []) (t' := s.toks) (fun _ _ q => Heap.get?_push_of_some _ q) (Nat.le_refl _)
    ⟨Nat.zero_le _, beq_eq_false_iff_ne.mpr (Ne.symm (Nat.ne_of_lt I.big2)), [], .nil, Heap.DictOf.new s.heap⟩, rfl, h _ (I.hok.fresh (Nat.le_refl _))⟩
end
structure TopFn (K : PySem.W.Frag) (mg : Str → Option Value) (x : Str) (st : Stmt) : Prop where
  ex : ∃ (f : Addr) (fd : FuncData), Fun K x x st f fd ∧ mg x = some (.ref f)
theorem same_new {H : Hp} {p : Addr} (h : H p = none) (o : HO) : Same H (upd H p o) := fun b u q => by rw [upd_ne (ne_of_none q h)]; exact q
end L2
namespace L2
open PySem PySem.Spec PyProof.Rows
theorem bt_int : bootBuiltins "int" = some (.type "int") := by decide +kernel
theorem bt_bool : bootBuiltins "bool" = some (.type "bool") := by decide +kernel
theorem bt_tuple : bootBuiltins "tuple" = some (.type "tuple") := by decide +kernel
theorem bt_list : bootBuiltins "list" = some (.type "list") := by decide +kernel
theorem bt_str : bootBuiltins "str" = some (.type "str") := by decide +kernel
theorem bt_len : bootBuiltins "len" = some (.builtin "len") := by decide +kernel
theorem bt_abs : bootBuiltins "abs" = some (.builtin "abs") := by decide +kernel
theorem bt_all : bootBuiltins "all" = some (.builtin "all") := by decide +kernel
theorem bt_isinstance : bootBuiltins "isinstance" = some (.builtin "isinstance") := by decide +kernel
def bsub (t T : String) : Option Bool := if (Value.type t == Value.type T) = true then some true else if PySem.W.kitMeta T = true then (fastBuiltinMro t).map (·.contains (Value.type T)) else none
theorem kit_b {K : PySem.W.Frag} {t T : String} {b : Bool} (h : bsub t T = some b) : PySem.W.kitOne K (.type t) (.type T) = some b := h
theorem topFn_mk {K : PySem.W.Frag} {h : Heap} {mg : Str → Option Value} {x : Str} {st : Stmt} {f : Addr} {oc : Value} {od an : Option Addr} {sl : Array (Option Value)} {kV dc pm cd ct : Value} (X : K.In h) (G : h.Ns mainGlobals mg)
    (a : PySem.W.nsIn K mainGlobals x = some (some (.ref f))) (l : K.lookup f = some ⟨oc, od, .func (PySem.W.fnOf x x (defArgs st) (defBody st) (defScope st) .none kV dc pm an cd ct), sl⟩) (c : PySem.W.codeIn K cd x = true) (k : PySem.W.keepIn K (.ref f) = true) : TopFn K mg x st :=
  ⟨f, _, fun_mk l c k, PySem.W.mg_of X G a⟩
section
variable {X : Cx} {es : List Expr} {te : TE} {t : TA}
theorem pa_const {c : Const} {j : Nat} {p : Pos} (ha : PE X (.Constant c j p) te) (hr : PA X es t) : PA X (.Constant c j p :: es) (tCons te t) := pa_cons ha hr (by rfl)
theorem pa_name {x : Str} {p : Pos} (ha : PE X (.Name x p) te) (hr : PA X es t) : PA X (.Name x p :: es) (tCons te t) := pa_cons ha hr (by rfl)
theorem pa_list {xs : List Expr} {p : Pos} (ha : PE X (.List xs p) te) (hr : PA X es t) : PA X (.List xs p :: es) (tCons te t) := pa_cons ha hr (by rfl)
theorem pa_tuple {xs : List Expr} {k : Nat} {p : Pos} (ha : PE X (.Tuple xs k p) te) (hr : PA X es t) : PA X (.Tuple xs k p :: es) (tCons te t) := pa_cons ha hr (by rfl)
theorem pa_dict {ks : List (Option Expr)} {vs : List Expr} {p : Pos} (ha : PE X (.Dict ks vs p) te) (hr : PA X es t) : PA X (.Dict ks vs p :: es) (tCons te t) := pa_cons ha hr (by rfl)
theorem pa_call {f : Expr} {as : List Expr} {kw : List Keyword} {p : Pos} (ha : PE X (.Call f as kw p) te) (hr : PA X es t) : PA X (.Call f as kw p :: es) (tCons te t) := pa_cons ha hr (by rfl)
theorem pa_bin {a : Expr} {o : Operator} {b : Expr} {p : Pos} (ha : PE X (.BinOp a o b p) te) (hr : PA X es t) : PA X (.BinOp a o b p :: es) (tCons te t) := pa_cons ha hr (by rfl)
theorem pa_un {o : UnaryOp} {a : Expr} {p : Pos} (ha : PE X (.UnaryOp o a p) te) (hr : PA X es t) : PA X (.UnaryOp o a p :: es) (tCons te t) := pa_cons ha hr (by rfl)
theorem pa_sub {a b : Expr} {p : Pos} (ha : PE X (.Subscript a b p) te) (hr : PA X es t) : PA X (.Subscript a b p :: es) (tCons te t) := pa_cons ha hr (by rfl)
end
end L2
namespace L2
open PySem PySem.Spec PyProof.Rows
theorem dict_mf (o : Obj) (f : Array Value → Array Value) : (o.mapFields f).dict = o.dict := by
  obtain ⟨c, d, dt, sl⟩ := o; cases dt <;> rfl
inductive Chn (h : Heap) : Value → Prop
  | none : Chn h .none
  | ref {b : Addr} {o : Obj} {vs : Array Value} {cx : Value} : h.get? b = some o → o.data = .fields vs → vs[2]? = some cx → Chn h cx → Chn h (.ref b)
theorem Chn.mono {h h' : Heap} (k : ∀ b o vs, h.get? b = some o → o.data = .fields vs → ∃ o' vs', h'.get? b = some o' ∧ o'.data = .fields vs' ∧ vs'[2]? = vs[2]?) {v : Value} (c : Chn h v) : Chn h' v := by
  induction c with
  | none => exact .none
  | ref e d t _ ih =>
    obtain ⟨o', vs', e', d', t'⟩ := k _ _ _ e d
    exact .ref e' d' (t'.trans t) ih
def Trc (base : Heap) (e : Addr) (c : Value) (d : Option Addr) (fl : Value) (h : Heap) : Prop :=
  ∃ (o oT : Obj) (vs ts : Array Value) (T : Addr), h.get? e = some o ∧ o.cls = c ∧ o.dict = d ∧ o.data = .fields vs ∧ vs[1]? = some (.ref T) ∧ base.get? T = none ∧ T ≠ e ∧ h.get? T = some oT ∧ oT.data = .fields ts ∧ ts[3]? = some fl ∧ ∃ cx, vs[2]? = some cx ∧ Chn h cx
def FlyD (base : Heap) (l : List Env) (e : Addr) (c : Value) (d : Option Addr) (fl : Value) (h : Heap) : Prop :=
  base.StaysIn h ∧ base.get? e = none ∧ h.FunFrames base l ∧ Trc base e c d fl h
theorem FlyD.there {base h : Heap} {l : List Env} {e : Addr} {c : Value} {d : Option Addr} {fl : Value} (x : FlyD base l e c d fl h) : ∃ ob, h.get? e = some ob ∧ ob.cls = c ∧ ob.dict = d ∧ ∃ vs, ob.data = .fields vs := by
  obtain ⟨_, _, _, o, _, vs, _, _, h1, h2, h3, h4, _⟩ := x
  exact ⟨o, h1, h2, h3, vs, h4⟩
theorem FlyD.pop {base h : Heap} {env : Env} {l : List Env} {e : Addr} {c : Value} {d : Option Addr} {fl : Value} (x : FlyD base (env :: l) e c d fl h) : FlyD base l e c d fl h := ⟨x.1, x.2.1, x.2.2.1.2.2, x.2.2.2⟩
section
variable {M : Model} {A : Around} {E : Value → Shared → Prop} {s : Shared} {base : Heap} {env : Env} {outer l : List Env} {L e : Addr} {c : Value} {d : Option Addr}
theorem note_new {o : Obj} {vs : Array Value} {head : Value} {hn : Bool} {Q : Unit → Shared → Prop} (hfr : A.frames = some (env :: outer)) (hf : env.frame = some L) (st : base.StaysIn s.heap) (ne : base.get? e = none)
    (fr : s.heap.FunFrames base (env :: outer)) (he : s.heap.get? e = some o) (hd : o.data = .fields vs) (hz : 1 < vs.size) (hcx : ∃ cx, vs[2]? = some cx ∧ Chn s.heap cx)
    (h : ∀ h', FlyD base (env :: outer) e o.cls o.dict (rawInt L) h' → s.heap.UpToSlots h' → Q () { s with heap := h' }) :
    wpAny M A (frameOf env >>= fun a => entryPlaceOf L hn >>= fun pl => EntryCells.newEntry head a .none (rawInt L) .none pl >>= fun b => setField (.ref e) 1 b) Q E s := by
  have eL : e ∉ (env :: outer).filterMap (·.frame) := fun m => by
    obtain ⟨_, u, hu, nf⟩ := fr.mem m
    rw [he] at hu; cases hu; exact nf vs hd
  refine wpAny_bind (wpAny_frameOf_fun hfr fr hf fun h1 so => wpAny_bind (wpAny_entryPlaceOf fun pl hp => ?_))
  have he1 : h1.get? e = some o := (so.2.1 e eL).trans he
  have Te : h1.objs.size ≠ e := Nat.ne_of_gt (Heap.lt_size he1)
  have st1 : base.StaysIn h1 := fun b u q => (so.2.1 b fun m => by rw [(fr.mem m).1] at q; cases q).trans (st b u q)
  have key : ∀ (oT : Obj) (ts : Array Value), oT.data = .fields ts → ts[3]? = some (rawInt L) → wpAny M A (setField (.ref e) 1 (.ref h1.objs.size)) Q E { s with heap := h1.push oT } := by
    intro oT ts dT t3
    have he2 := Heap.get?_push_of_some (h := h1) oT he1
    have hT2 : (h1.push oT).get? h1.objs.size = some oT := Heap.get?_push_size h1 (Obj.isFreed_of_fields dT)
    have oth : ∀ b u, b ≠ e → h1.get? b = some u → ((h1.push oT).update e (Obj.mapFields (·.setIfInBounds 1 (Value.ref h1.objs.size)))).get? b = some u := fun b u n q => by
      rw [Heap.get?_update_other _ _ (Ne.symm n)]; exact Heap.get?_push_of_some _ q
    have nrec : ∀ b u, s.heap.get? b = some u → (∀ xs, u.data ≠ .fields xs) → b ≠ e := fun b u q nf z => by
      subst z; rw [he] at q; cases q; exact nf vs hd
    refine wpAny_setField he2 hd hz (h _ ⟨fun b u q => oth b u (fun z => by rw [z, ne] at q; cases q) (st1 b u q), ne, fr.of_keeps fun b u q nf => ?_, _, oT, _, ts, h1.objs.size,
      Heap.get?_update_self _ he2 (Obj.isFreed_of_fields (Obj.data_mapFields hd _)), Obj.cls_mapFields _ _, dict_mf _ _, Obj.data_mapFields hd _, by simp [hz], st1.fresh, Te, ?_, dT, t3, ?_⟩ fun b u q nf => ?_)
    · obtain ⟨sl, z⟩ := so.2.2 b u q
      exact ⟨_, oth b _ (nrec b u q nf) z, rfl⟩
    · rw [Heap.get?_update_other _ _ (Ne.symm Te)]; exact hT2
    · obtain ⟨cx, c1, c2⟩ := hcx
      refine ⟨cx, by rw [Array.getElem?_setIfInBounds_ne (by decide)]; exact c1, c2.mono fun b u us q d => ?_⟩
      by_cases hb : b = e
      · subst hb
        rw [he] at q
        cases q
        rw [hd] at d
        cases d
        exact ⟨_, _, Heap.get?_update_self _ he2 (Obj.isFreed_of_fields (Obj.data_mapFields hd _)), Obj.data_mapFields hd _, Array.getElem?_setIfInBounds_ne (by decide)⟩
      · have nb : b ∉ (env :: outer).filterMap (·.frame) := fun m => by
          obtain ⟨_, u', hu, nf⟩ := fr.mem m
          rw [q] at hu; cases hu; exact nf us d
        exact ⟨u, us, oth b u hb ((so.2.1 b nb).trans q), d, rfl⟩
    · obtain ⟨sl, z⟩ := so.2.2 b u q
      exact ⟨sl, oth b _ (nrec b u q nf) z⟩
  unfold EntryCells.newEntry newFields; refine wpAny_bind (wpAny_newObj_type (key _ _ rfl ?_) (hp.sizeOk5 _ _ _ _ _))
  rcases hp with rfl | ⟨_, _, _, _, _, _, _, rfl⟩ <;> simp
theorem fl_none {fl : Value} {Q : Unit → Shared → Prop} (x : FlyD base l e c d fl s.heap) (h : ∀ h', FlyD base l e c d .none h' → s.heap.UpToSlots h' → Q () { s with heap := h' }) :
    wpAny M A (setFlight (.ref e) none) Q E s := by
  obtain ⟨st, ne, fr, o, oT, vs, ts, T, he, hc, hdd, hd, h1, nT, Te, hT, dT, h3, cx, c1, c2⟩ := x
  have z3 : 3 < ts.size := (Array.getElem?_eq_some_iff.mp h3).1
  have oth : ∀ b, b ≠ T → (s.heap.update T (Obj.mapFields (·.setIfInBounds 3 Value.none))).get? b = s.heap.get? b := fun b n => Heap.get?_update_other _ _ (Ne.symm n)
  have nrec : ∀ b u, s.heap.get? b = some u → (∀ xs, u.data ≠ .fields xs) → b ≠ T := fun b u q nf z => by
    subst z; rw [hT] at q; cases q; exact nf ts dT
  have kT : Chn (s.heap.update T (Obj.mapFields (·.setIfInBounds 3 Value.none))) cx := c2.mono fun b u us q d => by
    by_cases hb : b = T
    · subst hb
      rw [hT] at q
      cases q
      exact ⟨_, _, Heap.get?_update_self _ hT (Obj.isFreed_of_fields (Obj.data_mapFields d _)), Obj.data_mapFields d _, Array.getElem?_setIfInBounds_ne (by decide)⟩
    · exact ⟨u, us, (oth b hb).trans q, d, rfl⟩
  unfold setFlight; refine wpAny_bind (wpAny_field he hd h1 ?_)
  rw [if_pos (show (Value.ref T != Value.none) = true by simp)]
  refine wpAny_setField hT dT z3 (h _ ⟨fun b u q => (oth b fun z => by rw [z, nT] at q; cases q).trans (st b u q), ne, fr.of_keeps fun b u q nf => ⟨u, (oth b (nrec b u q nf)).trans q, rfl⟩,
    o, _, vs, _, T, (oth e (Ne.symm Te)).trans he, hc, hdd, hd, h1, nT, Te, Heap.get?_update_self _ hT (Obj.isFreed_of_fields (Obj.data_mapFields dT _)), Obj.data_mapFields dT _, by simp [z3], cx, c1, kT⟩ fun b u q nf => ⟨u.slots, (oth b (nrec b u q nf)).trans q⟩)
theorem note_next {Q : Unit → Shared → Prop} (hfr : A.frames = some (env :: outer)) (hf : env.frame = some L) (x : FlyD base (env :: outer) e c d .none s.heap)
    (h : ∀ h', FlyD base (env :: outer) e c d (rawInt L) h' → s.heap.UpToSlots h' → Q () { s with heap := h' }) : wpAny M A (noteFrame (.ref e) env) Q E s := by
  obtain ⟨st, ne, fr, o, oT, vs, ts, T, he, hc, hdd, hd, h1, nT, Te, hT, dT, h3, cx, c1, c2⟩ := x
  subst hc hdd
  have oth : ∀ b, b ≠ T → (s.heap.update T (Obj.mapFields (·.setIfInBounds 3 Value.none))).get? b = s.heap.get? b := fun b n => Heap.get?_update_other _ _ (Ne.symm n)
  have nrec : ∀ b u, s.heap.get? b = some u → (∀ xs, u.data ≠ .fields xs) → b ≠ T := fun b u q nf z => by
    subst z; rw [hT] at q; cases q; exact nf ts dT
  have kT : Chn (s.heap.update T (Obj.mapFields (·.setIfInBounds 3 Value.none))) cx := c2.mono fun b u us q d => by
    by_cases hb : b = T
    · subst hb
      rw [hT] at q
      cases q
      exact ⟨_, _, Heap.get?_update_self _ hT (Obj.isFreed_of_fields (Obj.data_mapFields d _)), Obj.data_mapFields d _, Array.getElem?_setIfInBounds_ne (by decide)⟩
    · exact ⟨u, us, (oth b hb).trans q, d, rfl⟩
  unfold noteFrame; simp only [hf]; refine wpAny_bind (wpAny_field he hd h1 ?_)
  rw [if_pos (show (Value.ref T != Value.none) = true by simp)]; refine wpAny_bind (wpAny_field hT dT h3 ?_)
  rw [if_neg (show ¬ ((Value.none == rawInt L) = true) by simp [rawInt])]; refine wpAny_bind (wpAny_setField hT dT (Array.getElem?_eq_some_iff.mp h3).1 ?_)
  refine note_new (s := { s with heap := s.heap.update T (Obj.mapFields (·.setIfInBounds 3 Value.none)) }) hfr hf (fun b u q => (oth b fun z => by rw [z, nT] at q; cases q).trans (st b u q)) ne (fr.of_keeps fun b u q nf => ⟨u, (oth b (nrec b u q nf)).trans q, rfl⟩)
    ((oth e (Ne.symm Te)).trans he) hd (Array.getElem?_eq_some_iff.mp h1).1 ⟨cx, c1, kT⟩ fun h' f up => h h' f fun b u q nf => up b u ((oth b (nrec b u q nf)).trans q) nf
theorem note_first {o : Obj} {vs : Array Value} {Q : Unit → Shared → Prop} (hfr : A.frames = some (env :: outer)) (hf : env.frame = some L) (st : base.StaysIn s.heap) (ne : base.get? e = none)
    (fr : s.heap.FunFrames base (env :: outer)) (he : s.heap.get? e = some o) (hd : o.data = .fields vs) (h1 : vs[1]? = some .none) (hcx : ∃ cx, vs[2]? = some cx ∧ Chn s.heap cx)
    (h : ∀ h', FlyD base (env :: outer) e o.cls o.dict (rawInt L) h' → s.heap.UpToSlots h' → Q () { s with heap := h' }) : wpAny M A (noteFrame (.ref e) env) Q E s := by
  unfold noteFrame; simp only [hf]; refine wpAny_bind (wpAny_field he hd h1 ?_)
  rw [if_neg (by decide)]
  exact note_new hfr hf st ne fr he hd (Array.getElem?_eq_some_iff.mp h1).1 hcx h
theorem leave_first {o : Obj} {vs : Array Value} {Q : Unit → Shared → Prop} (hfr : A.frames = some (env :: outer)) (hf : env.frame = some L) (st : base.StaysIn s.heap) (ne : base.get? e = none)
    (fr : s.heap.FunFrames base (env :: outer)) (he : s.heap.get? e = some o) (hd : o.data = .fields vs) (h1 : vs[1]? = some .none) (hcx : ∃ cx, vs[2]? = some cx ∧ Chn s.heap cx)
    (h : ∀ h', FlyD base outer e o.cls o.dict .none h' → s.heap.UpToSlots h' → Q () { s with heap := h' }) : wpAny M A (leaving env (.ref e)) Q E s :=
  wpAny_bind (note_first hfr hf st ne fr he hd h1 hcx fun h1 f1 u1 => fl_none (s := { s with heap := h1 }) f1 fun h2 f2 u2 => h h2 f2.pop (u1.trans u2))
theorem leave_next {Q : Unit → Shared → Prop} (hfr : A.frames = some (env :: outer)) (hf : env.frame = some L) (x : FlyD base (env :: outer) e c d .none s.heap)
    (h : ∀ h', FlyD base outer e c d .none h' → s.heap.UpToSlots h' → Q () { s with heap := h' }) : wpAny M A (leaving env (.ref e)) Q E s :=
  wpAny_bind (note_next hfr hf x fun h1 f1 u1 => fl_none (s := { s with heap := h1 }) f1 fun h2 f2 u2 => h h2 f2.pop (u1.trans u2))
end
end L2
namespace L2
open PySem PySem.Spec PyProof.Rows
def ExcAt (a C : Addr) (h : Heap) : Prop := ∃ o, h.get? a = some o ∧ o.cls = .ref C
theorem ObjOk.some_of {P : Program} {w : World} {H : Hp} {h : Heap} {a : Addr} {o : HO} (x : ObjOk P w H h a o) : ∃ u, h.get? a = some u := by
  cases o with
  | lst xs => obtain ⟨_, _, _, _, e⟩ := x; exact ⟨_, e⟩
  | tup xs => obtain ⟨_, _, _, p⟩ := x; obtain ⟨o, e, _⟩ := p; exact ⟨_, e⟩
  | dK kvs => obtain ⟨_, _, _, _, o, _, _, e, _⟩ := x; exact ⟨_, e⟩
  | dT kvs => obtain ⟨_, _, _, _, o, _, _, e, _⟩ := x; exact ⟨_, e⟩
  | set S n => obtain ⟨o, _, _, _, e, _⟩ := x; exact ⟨_, e⟩
  | ins C dx fs => obtain ⟨_, _, _, e, _⟩ := x; exact ⟨_, e⟩
  | own y => obtain ⟨_, e⟩ := x; exact ⟨_, e⟩
  | xd fs => obtain ⟨_, ⟨_, _, _, e, _⟩, _⟩ := x; exact ⟨_, e⟩
  | rng lo hi => obtain ⟨_, _, _, e⟩ := x; exact ⟨_, e⟩
  | frz ob u => obtain ⟨e, _⟩ := x; exact ⟨_, e⟩
  | tbl ps => exact ⟨_, (show h.get? a = some _ from x)⟩
  | met f y => exact ⟨_, (show h.get? a = some _ from x)⟩
  | ext φ => obtain ⟨_, ⟨_, e⟩, _⟩ := x; exact ⟨_, e⟩
theorem HOk.none_of {P : Program} {w : World} {H : Hp} {h : Heap} {a : Addr} (x : HOk P w H h) (e : h.get? a = none) : H a = none := by
  cases q : H a with
  | none => rfl
  | some o =>
    obtain ⟨u, z⟩ := (x a o q).some_of
    rw [e] at z
    cases z
def CX1 (P : Program) (w : World) : CXT := fun outer H s E e s' => ∃ (a C : Addr) (d : Option Addr) (H' : Hp) (B : Heap), e = .ref a ∧ s'.os = s.os ∧ AllBare s'.gens ∧
  (∀ h'' : Heap, B.StaysIn h'' → s'.heap.UpToSlots h'' → Un (frs outer) [] H H' s.heap h'' ∧ HOk P w H' h'') ∧ FlyD B outer a (.ref C) d .none s'.heap ∧ H' a = none ∧ s.heap.get? a = none ∧ E (.ref C) d H'
structure BodyCx (X : Cx) (E : XK) : Prop where
  stk : X.stack = X.env :: X.outer
  fr : X.env.frame = some X.env.locals
  ex : X.ex = []
  xe : X.xe = fun e s' => wpAny (model X.prog X.w) X.A (leaving X.env e) (fun _ s'' => CX1 X.prog X.w X.outer X.H₀ X.s₀ E e s'') (fun e' s'' => CX1 X.prog X.w X.outer X.H₀ X.s₀ E e' s'') s'
section
variable {X : Cx} {pins : List (Addr × Obj)} {σ : St} {H : Hp} {s : Shared}
theorem mem_stack {E : XK} (Bd : BodyCx X E) {b : Addr} : b ∈ frs X.stack ↔ b = X.env.locals ∨ b ∈ frs X.outer := by
  rw [Bd.stk]
  show b ∈ List.filterMap (·.frame) (X.env :: X.outer) ↔ _
  rw [List.filterMap_cons, Bd.fr]
  exact List.mem_cons
theorem clo_of {E : XK} (Bd : BodyCx X E) (I : Inv X pins σ H s) {h1 h2 : Heap} (k : ∀ b o, s.heap.get? b = some o → h1.get? b = some o) (up : h1.UpToSlots h2) (h'' : Heap)
    (st : (PySem.W.hideAll s.heap (frs X.stack)).StaysIn h'') (up2 : h2.UpToSlots h'') : Un (frs X.outer) [] X.H₀ H X.s₀.heap h'' ∧ HOk X.prog X.w H h'' := by
  have inB : ∀ b o, s.heap.get? b = some o → b ∉ frs X.stack → h''.get? b = some o := fun b o e n => st b o (PySem.W.hideAll_get _ e n)
  have sl : ∀ b o, s.heap.get? b = some o → b ∈ frs X.stack → ∃ sl, h''.get? b = some { o with slots := sl } := fun b o e m => by
    obtain ⟨_, o', ho', hnf⟩ := I.stack.mem m
    rw [e] at ho'
    cases ho'
    exact (up.trans up2) b o (k b o e) hnf
  have nx : ∀ b : Addr, b ∉ X.ex := fun b z => by rw [Bd.ex] at z; cases z
  have neL : ∀ b o, X.s₀.heap.get? b = some o → b ≠ X.env.locals := fun b o e => Nat.ne_of_lt (Nat.lt_of_lt_of_le (Heap.lt_size e) I.ok.above)
  have any : ∀ b o, s.heap.get? b = some o → ∃ o', h''.get? b = some o' := fun b o e => by
    by_cases m : b ∈ frs X.stack
    · obtain ⟨z, q⟩ := sl b o e m
      exact ⟨_, q⟩
    · exact ⟨_, inB b o e m⟩
  refine ⟨⟨fun b o e n hb _ => ?_, fun b o e n hb _ => ?_, fun b o e n _ => I.base.free b o e n (nx b), fun b o e _ => ?_, I.base.tups, I.base.frzs, I.base.tbls⟩, fun a o e => ?_⟩
  · exact inB b o (I.base.keep b o e n hb (nx b)) fun m => (mem_stack Bd).mp m |>.elim (neL b o e) hb
  · obtain ⟨z, q⟩ := I.base.slot b o e n hb (nx b)
    obtain ⟨z', q'⟩ := sl b _ q ((mem_stack Bd).mpr (.inr hb))
    exact ⟨z', q'⟩
  · obtain ⟨o', q⟩ := I.base.there b o e (nx b)
    exact any b o' q
  · refine (I.hok a o e).stay (fun b u hc q => inB b u q fun m => ?_) (fun _ q => q) fun _ _ q => q
    have z := I.stkFree b m
    rcases hc with rfl | hc
    · rw [z] at e; cases e
    · rw [z] at hc; cases hc
theorem inv_behind {H' : Hp} {h'' : Heap} {s' : Shared} (I : Inv X pins σ H s) (ho : s'.os = s.os) (hg : AllBare s'.gens) (u : Un (frs X.stack) [] H H' s.heap h'' ∧ HOk X.prog X.w H' h'') : Inv X pins σ H' { s' with heap := h'' } :=
  I.call' (s' := { s' with heap := h'' }) (ch := []) ho u.1 u.2 hg fun b z => nomatch z
theorem new0 (I : Inv X pins σ H s) (nx : ∀ b : Addr, b ∉ X.ex) {a : Addr} (e : s.heap.get? a = none) : X.s₀.heap.get? a = none := by
  cases q : X.s₀.heap.get? a with
  | none => rfl
  | some o =>
    obtain ⟨o', z⟩ := I.base.there a o q (nx a)
    rw [e] at z
    cases z
theorem passes1 {E : XK} (Bd : BodyCx X E) : Passes (CX1 X.prog X.w) X E := by
  intro pins σ H s e s' I h
  obtain ⟨a, C, t, H', B, rfl, os, bare, clo, fly, na, nw, q⟩ := h
  rw [Bd.xe]
  have hfr : X.A.frames = some (X.env :: X.outer) := by rw [← Bd.stk]; exact I.ok.frames
  have fly' : FlyD B (X.env :: X.outer) a (.ref C) t .none s'.heap := by rw [← Bd.stk]; exact fly
  refine leave_next hfr Bd.fr fly' fun h' f1 up => ?_
  have nx : ∀ b : Addr, b ∉ X.ex := fun b z => by rw [Bd.ex] at z; cases z
  have J0 : ∀ h'' : Heap, B.StaysIn h'' → h'.UpToSlots h'' → Inv X pins σ H' { s' with heap := h'' } := fun h'' st up2 => inv_behind I os bare (clo h'' st (up.trans up2))
  have os0 : s'.os = X.s₀.os := os.trans I.os
  refine ⟨a, C, t, H', B, rfl, os0, bare, fun h'' st up2 => ?_, f1, na, new0 I nx nw, q⟩
  have J := J0 h'' st up2
  have u := J.base
  rw [Bd.ex] at u
  exact ⟨u, J.hok⟩
end
theorem exc_obj {K : PySem.W.Frag} {h₀ : Heap} {C : Addr} {bmB : List Value} {newId : String} (X : K.In h₀) (q : PySem.W.excIn K C bmB newId = true) :
    ∃ bm N nm q bs hdct sn sub ab col dd k0 k1 k2 k3 k5 mN, h₀.get? C = some (excClassObj nm q C N bs bm hdct sn sub ab col dd k0 k1 k2 k3 k5 newId) ∧ h₀.Ns N mN ∧ mN "__init__" = none ∧ OwnTail h₀ bmB bm := by
  unfold PySem.W.excIn at q
  split at q
  · rename_i dd cd sl ho
    split at q
    · rename_i C' bm k0 k1 k2 k3 n k5 hm hs
      simp only [Bool.and_eq_true, beq_iff_eq, Bool.not_eq_true'] at q
      obtain ⟨⟨⟨⟨⟨rfl, rfl⟩, hdel⟩, ht⟩, hok⟩, hni⟩ := q
      obtain ⟨nm, bs, mro, ns, qn, hd, sn, sub, ab, col, del⟩ := cd
      dsimp only at hm hdel hok hni
      subst hm hdel
      have hsl : sl = #[k0, k1, k2, k3, some (.builtin n), k5] := by
        obtain ⟨l⟩ := sl
        simp only at hs
        rw [hs]
      subst hsl
      exact ⟨bm, ns, nm, qn, bs, hd, sn, sub, ab, col, dd, k0, k1, k2, k3, k5, _, X _ _ ho, .of_isNs (PySem.W.isNs_of_in X hok), PySem.W.nsMap_none_of_in X hok hni, PySem.W.tail_of_in X ht⟩
    · cases q
  · cases q
structure ExcCls (K : PySem.W.Frag) (mg : Str → Option Value) (x : Str) (C : Addr) : Prop where
  mg : mg x = some (.ref C)
  ob : PySem.W.excIn K C [.type "ValueError", .type "Exception", .type "BaseException", .type "object"] "ValueError.__new__" = true
section
variable {X : Cx} {x : Str} {C : Addr} {e₀ : Expr} {t : TA} {np cpos pos : Pos}
def tRaise (E : XK) (C : Addr) (t : TA) : TS := fun _ σ H => t σ H fun vs H1 => vs.length ≤ sizeLine ∧ E (.ref C) none H1
theorem ps_raise {E : XK} (Bd : BodyCx X E) (hc : X.calm = true) (O : ExcCls X.K X.mg x C) (ha : PA X [e₀] t) (hg : Gl X x := by rfl) (hdb : (x == ("__debug__" : Str)) = false := by decide)
    (he : starEach [e₀] X.env = [(false, eval e₀ X.env)] := by rfl) :
    PS X (.Raise (some (.Call (.Name x np) [e₀] [] cpos)) none pos) (tRaise E C t) := by
  intro pins s σ H D I h
  obtain ⟨bm, N, nm, qn, bs, hdct, sn, sub, ab, col, dd, k0, k1, k2, k3, k5, mN, hC, hN, hni, TL⟩ := exc_obj I.ok.mod.kin O.ob
  have hbase : bm.contains (.type "BaseException") = true := TL.hasType (X := "BaseException") (by decide +kernel)
  have hpl : (backTo cpos (starEach [e₀] X.env)).any (·.1) = false := by rw [he]; rfl
  refine wpAny_Raise_call_subT (nm := nm) (q := qn) (N := N) (bs := bs) (hdct := hdct) (sn := sn) (sub := sub) (ab := ab) (col := col) (dd := dd) (k0 := k0) (k1 := k1) (k2 := k2) (k3 := k3) (k5 := k5) F.excBase_ValueError hbase (I.ok.hd hc) hpl hni (ld_glob I hg O.mg ⟨rfl, ?_⟩ hdb)
  have h1 := ha cpos pins s σ H _ I h
  rw [he] at h1 ⊢
  refine Calls.evalArgs_plain (thn h1 fun us s2 ⟨vs, H2, I2, r, hl, q⟩ => ⟨rfl, by rw [← r.length]; exact hl, I2.bk _ _ hC, hN.keeps I2.bk, TL.keeps I2.bk, fun h' e hm => ?_⟩)
  rw [Bd.xe]
  have hfr : X.A.frames = some (X.env :: X.outer) := by rw [← Bd.stk]; exact I.ok.frames
  have hin : ∀ env ∈ X.stack, ∀ b, env.frame = some b → b ∈ frs X.stack := fun env he b hb => List.mem_filterMap.mpr ⟨env, he, hb⟩
  have ff : s2.heap.FunFrames (PySem.W.hideAll s2.heap (frs X.stack)) (X.env :: X.outer) := by
    have z := PySem.W.funFrames_hide I2.stack hin
    rw [← Bd.stk]
    exact z
  obtain ⟨t0, he0, _, _⟩ := hm.there
  have ne0 : (PySem.W.hideAll s2.heap (frs X.stack)).get? e = none := by
    cases q0 : (PySem.W.hideAll s2.heap (frs X.stack)).get? e with
    | none => rfl
    | some o => have z := PySem.W.of_hideAll _ q0; rw [hm.new] at z; cases z
  refine leave_first (s := { s2 with heap := h' }) hfr Bd.fr (fun b o q => hm.keeps b o (PySem.W.of_hideAll _ q)) ne0 (ff.of_keeps fun b o q _ => ⟨o, hm.keeps b o q, rfl⟩) he0 rfl rfl ⟨_, rfl, .none⟩ fun h3 fly up => ?_
  refine ⟨e, C, none, H2, _, rfl, ?_, I2.bare, fun h'' st up2 => clo_of Bd I2 hm.keeps up h'' st up2, fly, I2.hok.none_of hm.new, new0 I2 (fun b z => by rw [Bd.ex] at z; cases z) hm.new, q⟩
  exact I2.os
end
end L2
namespace L2
open PySem PySem.Spec PyProof.Rows
structure RoomB (c : Bool) (k : Nat) (A : Around) : Prop where
  hd : c = true → A.handled = none
  dp : A.depth + 3 * k + 5 < recursionLimit
  un : A.units + 16 * k + 200 < cLine
theorem RoomB.mono {c : Bool} {j k : Nat} {A : Around} (r : RoomB c k A) (h : j ≤ k) : RoomB c j A := ⟨r.hd, by have := r.dp; omega, by have := r.un; omega⟩
theorem RoomB.deeper {c : Bool} {k : Nat} {A : Around} (r : RoomB c (k + 1) A) (env : Env) : RoomB c k (A.deeper env) :=
  ⟨r.hd, by have := r.dp; show A.depth + 1 + 3 * k + 5 < _; omega, by have := r.un; show A.units + 3 + 16 * k + 200 < _; omega⟩
theorem RoomB.depth {c : Bool} {k : Nat} {A : Around} (r : RoomB c k A) : A.depth < recursionLimit := by have := r.dp; omega
theorem RoomB.units {c : Bool} {k : Nat} {A : Around} (r : RoomB c k A) : A.units + 64 < cLine := by have := r.un; omega
theorem Room.b {k : Nat} {A : Around} (r : Room k A) : RoomB true k A := ⟨fun _ => r.hd, r.dp, r.un⟩
structure FnB (P : Program) (w : World) (K : PySem.W.Frag) (mg : Str → Option Value) (base : Heap) (c : Bool) (k : Nat) (f : Addr) (fd : FuncData) (ps : List Str) (sp : Sp) : Prop where
  len : ∀ vs H Q E, sp vs H Q E → vs.length = ps.length
  run : ∀ (A : Around) (outer : List Env) (s : Shared) (H : Hp) (args : Args) (us : List Value) (vs : List V) (Q : VK) (E : XK), RoomB c k A → Env0 P w K mg base A outer s H → BindsTo s fd args (ps.zip us) → Vals vs us → sp vs H Q E →
    codeAny (model P w) A (.call (.ref f) args) (CR (CX1 P w) outer P w H s Q E) s
theorem FnB.ok {P : Program} {w : World} {K : PySem.W.Frag} {mg : Str → Option Value} {base : Heap} {k : Nat} {f : Addr} {fd : FuncData} {ps : List Str} {sp : Sp} (F : FnB P w K mg base true k f fd ps sp) : FnOk P w K mg base (CX1 P w) k f fd ps sp :=
  ⟨F.len, fun A outer s H args us vs Q E hr => F.run A outer s H args us vs Q E hr.b⟩
def cxB (c : Bool) (P : Program) (w : World) (K : PySem.W.Frag) (mg : Str → Option Value) (base : Heap) (N : List Str) (qual : Str) (scope : Scope) (f : Addr) (cd : Value) (A : Around) (outer : List Env) (s : Shared) (H : Hp) (E : XK) : Cx :=
  { cxOf (CX1 P w) P w K mg base N qual scope f cd A outer s H E with calm := c }
theorem bodyB {c : Bool} {P : Program} {w : World} {K : PySem.W.Frag} {mg : Str → Option Value} {base : Heap} {N : List Str} {qual : Str} {scope : Scope} {f : Addr} {cd : Value} {A : Around} {outer : List Env} {s : Shared} {H : Hp} {E : XK} :
    BodyCx (cxB c P w K mg base N qual scope f cd A outer s H E) E := ⟨rfl, rfl, rfl, rfl⟩
theorem inv_startB {c : Bool} {P : Program} {w : World} {K : PySem.W.Frag} {mg : Str → Option Value} {base : Heap} {N ps : List Str} {qual : Str} {scope : Scope} {f : Addr} {cd : Value} {A : Around} {outer : List Env} {s s1 : Shared} {H : Hp} {E : XK} {us : List Value} {vs : List V}
    (S : FnScope N ps scope) (hd : c = true → A.handled = none) (e0 : Env0 P w K mg base A outer s H) (hl : vs.length = ps.length) (r : Vals vs us)
    (x : InCallC s s.heap.objs.size (bindL (envOfC qual scope s.heap.objs.size f cd).kindOf (ps.zip us) fun _ => none) (cellsFrom (s.heap.objs.size + 1) scope.names []) (bindC (envOfC qual scope s.heap.objs.size f cd).kindOf (ps.zip us) fun _ => none) s1) :
    Inv (cxB c P w K mg base N qual scope f cd A outer s H E) [] (start N vs) H s1 := by
  have hpl : ps.length ≤ N.length := by have := congrArg List.length S.pre; rw [List.length_take] at this; omega
  obtain ⟨h1, tk, rfl, hk⟩ := x.done
  have noA : ∀ b : Addr, b ∉ (cxB c P w K mg base N qual scope f cd A outer s H E).ex := fun b z => absurd (show b ∈ ([] : List Addr) from z) (by simp)
  refine ⟨⟨e0.mod, S.kind, rfl, rfl, Nat.le_refl _, fun y z c h1 h2 => ?_, fun y hy => ?_, fun y c _ h => ?_, fun z => hd z, Around.frames_deeper e0.frames, .inr ⟨rfl, rfl⟩, fun b z => absurd z (noA b), e0.bs, e0.bsz, fun b _ _ => noA b, fun b z => absurd z (noA b), e0.funs, e0.frf⟩,
    rfl, e0.bare, Un.kept hk, ⟨_, x.toInCall.ns, fun i y v h1 h2 h3 => ?_⟩, fun y c h => ⟨_, x.cell y c h⟩, e0.hok.fresh (Nat.le_refl _), fun y c h => ?_, fun p hp => absurd (show p ∈ ([] : List (Addr × Obj)) from hp) (by simp), e0.hok.kept hk, ?_⟩
  · exact name_of_addr x.apart (PySem.mem_of_lookup h1) (PySem.mem_of_lookup h2)
  · have hy : scope.names.lookup y = some .cell ∨ scope.names.lookup y = some .free := hy
    rcases hy with hy | hy
    · exact cell_has hy
    · exact absurd rfl (S.nofree _ (PySem.mem_of_lookup hy))
  · exact Nat.le_of_lt (x.above y c (PySem.mem_of_lookup h))
  · have hi : i < vs.length := by
      unfold start at h2
      by_cases hi : i < vs.length
      · exact hi
      · rw [List.getElem?_append_right (by simpa using hi)] at h2
        rw [List.getElem?_replicate] at h2
        split at h2 <;> cases h2
    have ha : vs[i]? = some v := by
      unfold start at h2
      rw [List.getElem?_append_left (by simpa using hi), List.getElem?_map] at h2
      cases e : vs[i]? with
      | none => rw [e] at h2; cases h2
      | some a => rw [e] at h2; cases h2; rfl
    obtain ⟨u, hu, rv⟩ := r.get ha
    have hp : ps[i]? = some y := by
      rw [← S.pre, List.getElem?_take_of_lt (by omega)]; exact h1
    have ndP : ps.Nodup := by rw [← S.pre]; exact S.nd.sublist (List.take_sublist _ _)
    refine ⟨u, rv, ?_⟩
    rcases S.par y (List.mem_of_getElem? hp) with k | k
    · exact .inl ⟨k, bindL_get ndP hp hu k⟩
    · obtain ⟨c, e⟩ := cell_has (n := s.heap.objs.size + 1) k
      refine .inr ⟨.inl k, c, e, ?_⟩
      have q := x.cell y c e
      rw [bindC_get ndP hp hu (by show scope.names.lookup y ≠ _; rw [k]; decide)] at q
      exact q
  · exact e0.hok.fresh (Nat.le_of_lt (x.above y c (PySem.mem_of_lookup h)))
  · unfold start
    show _ = N.length
    rw [List.length_append, List.length_map, List.length_replicate]
    omega
theorem fnB_of {c : Bool} {P : Program} {w : World} {K : PySem.W.Frag} {mg : Str → Option Value} {base : Heap} {k : Nat} {f : Addr} {name qual : Str} {params : Arguments} {body : List Stmt} {scope : Scope} {dV kV doc pm cdv ct oc : Value} {an od : Option Addr}
    {osl : Array (Option Value)} {N ps : List Str} {sp : Sp} (lk : K.lookup f = some ⟨oc, od, .func (PySem.W.fnOf name qual params body scope dV kV doc pm an cdv ct), osl⟩) (hcd : PySem.W.codeIn K cdv qual = true) (S : FnScope N ps scope)
    (len : ∀ vs H Q E, sp vs H Q E → vs.length = ps.length)
    (hbody : ∀ (A : Around) (outer : List Env) (s : Shared) (H : Hp) (vs : List V) (Q : VK) (E : XK), RoomB c k (A.deeper (envOfC qual scope s.heap.objs.size f cdv)) → sp vs H Q E →
      ∃ t, PSs (cxB c P w K mg base N qual scope f cdv A outer s H E) body t ∧ t { nx := fun _ H' => Q .non H', rt := Q } (start N vs) H) :
    FnB P w K mg base c (k + 1) f (PySem.W.fnOf name qual params body scope dV kV doc pm an cdv ct) ps sp := by
  refine ⟨len, fun A outer s H args us vs Q E hr e0 hb r hsp => ?_⟩
  have hl := len _ _ _ _ hsp
  have KX : K.In s.heap := e0.mod.kin.keeps fun b o e => (e0.bs b o e).1
  have lim : s.heap.NoLimit := e0.mod.nolimit.keeps fun b o e => (e0.bs b o e).1
  have hkind : ∀ y ∈ ps.zip us, scope.names.lookup y.1 = some .local ∨ (scope.names.lookup y.1 = some .cell ∧ ((cellsFrom (s.heap.objs.size + 1) scope.names []).lookup y.1).isSome = true) := fun ⟨n, v⟩ hy => by
    rcases S.par n (List.of_mem_zip hy).1 with q | q
    · exact .inl q
    · exact .inr ⟨q, PySem.W.cellsFrom_some _ _ _ (.inl q)⟩
  refine codeAny_call_function hr.depth (KX _ _ lk) rfl S.co S.gen rfl (PySem.W.codeRec_of KX hcd) (hb _ _ _ _ ?_)
  refine wpAny_newFunctionEnv_cells S.kind hkind fun env he s1 x => ?_
  subst he
  refine ⟨lim.keeps x.toInCall.keep, codeAny_func ?_⟩
  obtain ⟨t, ht, hq⟩ := hbody A outer s H vs Q E (hr.deeper _) hsp
  have I : Inv (cxB c P w K mg base N qual scope f cdv A outer s H E) [] (start N vs) H s1 := inv_startB S hr.hd e0 hl r x
  refine wpAny_mono (ht [] s1 (start N vs) H _ I hq) (fun fl s' hs => ?_) fun e s' hs => hs
  have fin : ∀ {σ' : St} {H' : Hp} {v : V} {u : Value}, Inv (cxB c P w K mg base N qual scope f cdv A outer s H E) [] σ' H' s' → RelV v u → Q v H' → CE outer P w H s Q u s' :=
    fun {σ' H' v u} J rv q => ⟨v, H', J.os, J.bare, J.base, J.hok, rv, q⟩
  cases fl with
  | ret u =>
    obtain ⟨v, σ', H', J, rv, q⟩ := hs
    exact fin J rv q
  | next =>
    obtain ⟨σ', H', J, q⟩ := hs
    exact fin (v := V.non) (u := Value.none) J rfl q
  | brk =>
    obtain ⟨_, _, _, q⟩ := hs
    exact False.elim q
  | cont =>
    obtain ⟨_, _, _, q⟩ := hs
    exact False.elim q
structure CalB (P : Program) (w : World) (K : PySem.W.Frag) (mg : Str → Option Value) (base : Heap) (c : Bool) (k : Nat) (x : Str) (ps : List Str) (sp : Sp) : Prop where
  ex : ∃ (f : Addr) (fd : FuncData), FnB P w K mg base c k f fd ps sp ∧ mg x = some (.ref f) ∧ PySem.W.keepIn K (.ref f) = true ∧ Binds K fd ps []
theorem TopFn.calB {c : Bool} {P : Program} {w : World} {K : PySem.W.Frag} {mg : Str → Option Value} {base : Heap} {x : Str} {st : Stmt} {N ps : List Str} {k : Nat} {sp : Sp} (T : TopFn K mg x st) (S : FnScope N ps (defScope st))
    (hb : ∀ (kV doc pm : Value) (an : Option Addr) (cdv ct : Value) (us : List Value), us.length = ps.length → bindArgs (PySem.W.fnOf x x (defArgs st) (defBody st) (defScope st) .none kV doc pm an cdv ct) ⟨us, []⟩ = pure (ps.zip us))
    (len : ∀ vs H Q E, sp vs H Q E → vs.length = ps.length)
    (hbody : ∀ (f : Addr) (cdv : Value) (A : Around) (outer : List Env) (s : Shared) (H : Hp) (vs : List V) (Q : VK) (E : XK), RoomB c k (A.deeper (envOfC x (defScope st) s.heap.objs.size f cdv)) → sp vs H Q E →
      ∃ t, PSs (cxB c P w K mg base N x (defScope st) f cdv A outer s H E) (defBody st) t ∧ t { nx := fun _ H' => Q .non H', rt := Q } (start N vs) H) : CalB P w K mg base c (k + 1) x ps sp := by
  obtain ⟨f, fd, F, hm⟩ := T.ex
  obtain ⟨oc, od, kV, doc, pm, an, cdv, ct, osl, rfl, l, cd⟩ := id F.ex
  exact ⟨f, _, fnB_of l cd S len (hbody f cdv), hm, F.kp, F.binds hb⟩
theorem pass01 {P : Program} {w : World} {X : Cx} : Passes (CX1 P w) X E0 := fun _ _ _ _ _ _ _ h => by
  obtain ⟨_, _, _, _, _, _, _, _, _, _, _, _, q⟩ := h
  exact q.elim
section
variable {X : Cx} {c : Bool} {k : Nat} {ps : List Str} {sp : Sp} {x : Str} {p pos : Pos} {e : Expr} {es : List Expr} {t : TA} {E : XK}
theorem run_fnB {pins : List (Addr × Obj)} {σ : St} {H : Hp} {s : Shared} {Q : VK} {us : List Value} {vs : List V} {f : Addr} {fd : FuncData} {E' : Value → Shared → Prop} (F : FnB X.prog X.w X.K X.mg X.base c k f fd ps sp) (hr : RoomB c k X.A) (hb : Binds X.K fd ps [])
    (I : Inv X pins σ H s) (r : Vals vs us) (h : sp (vs ++ []) H Q E) (hx : ∀ e s', CX1 X.prog X.w X.stack H s E e s' → E' e s') : wpAny (model X.prog X.w) X.A (call (.ref f) us) (EP X pins σ Q) E' s := by
  have r2 : Vals (vs ++ []) (us ++ []) := r.append .nil
  have hl : (us ++ []).length = ps.length := by rw [← r2.length]; exact F.len _ _ _ _ h
  refine wpAny_call (codeAny_mono (F.run X.A X.stack s H ⟨us, []⟩ (us ++ []) (vs ++ []) Q E hr I.env0 (hb s us I.kIn hl) r2 h) fun r s' hq => ?_)
  cases r with
  | error e => exact hx e s' hq
  | ok fl =>
    cases fl with
    | ret u => exact I.after hq
    | next => exact False.elim hq
    | brk => exact False.elim hq
    | cont => exact False.elim hq
theorem pe_cB (C : CalB X.prog X.w X.K X.mg X.base c k x ps sp) (hr : RoomB c k X.A) (hx : Passes (CX1 X.prog X.w) X E) (ha : PA X (e :: es) t) (hg : Gl X x := by rfl) (hdb : (x == ("__debug__" : Str)) = false := by decide)
    (he : starEach (e :: es) X.env = (false, eval e X.env) :: starEach es X.env := by rfl) (hpl : (backTo pos (starEach es X.env)).any (·.1) = false := by rfl) :
    PE X (.Call (.Name x p) (e :: es) [] pos) (tCall sp [] E t) := by
  obtain ⟨f, fd, F, hm, hk, hb⟩ := C.ex
  intro pins s σ H Q I h
  refine wpAny_Call_Name_kw (ld_glob I hg hm ?_ hdb)
  refine PySem.W.callWith_K (h₀ := X.base) I.ok.mod.kin hk (thn (ha pos pins s σ H _ I h) fun us s1 ⟨vs, H1, I1, r, q⟩ => ⟨I1.kIn, ?_⟩) he hpl
  exact run_fnB F hr hb I1 r q fun e s' h => hx pins σ H1 s1 e s' I1 h
end
end L2
namespace L2
open PySem PySem.Spec PyProof.Rows
abbrev Cx.hnd (X : Cx) (a : Addr) : Cx := { X with A := X.A.mark (some (.ref a)), calm := false, xe := fun _ _ => False }
section
variable {X : Cx} {pins : List (Addr × Obj)} {σ : St} {H : Hp} {s : Shared}
theorem Inv.hnd (I : Inv X pins σ H s) (a : Addr) : Inv (X.hnd a) pins σ H s :=
  ⟨⟨I.ok.mod, I.ok.kind, I.ok.glob, I.ok.blt, I.ok.above, I.ok.inj, I.ok.has, I.ok.cab, (fun z => nomatch z), I.ok.frames, I.ok.stk, I.ok.exf, I.ok.bs, I.ok.bsz, I.ok.noex, I.ok.exfs, I.ok.funs, I.ok.frf⟩, I.os, I.bare, I.base, I.loc, I.cell, I.free, I.freeC, I.pin, I.hok, I.len⟩
theorem Inv.unhnd {a : Addr} (I0 : X.Ok) (I : Inv (X.hnd a) pins σ H s) : Inv X pins σ H s := ⟨I0, I.os, I.bare, I.base, I.loc, I.cell, I.free, I.freeC, I.pin, I.hok, I.len⟩
theorem gone_ok {M : Model} {A : Around} {E : Value → Shared → Prop} {i : Nat} {n : Str} {pos : Pos} {Q : Unit → Shared → Prop} (I : Inv X pins σ H s) (hN : X.N.Nodup) (hi : X.N[i]? = some n) (hk : X.env.scope.names.lookup n = some .local)
    (h : ∀ s', Inv X pins (σ.set i none) H s' → Q () s') : wpAny M A (do bindName X.env n .none; unbindBehindTheSuite X.env n pos) Q E s := by
  obtain ⟨m, hn, hl⟩ := id I.loc
  have hcls : (X.env.scope.kind == .class || (X.env.scope.kind == .module && X.env.locals != X.env.globals)) = false := by rw [I.ok.kind]; rfl
  have hiσ : i < σ.length := by rw [I.len]; exact (List.getElem?_eq_some_iff.mp hi).1
  have cne := I.cne
  refine wpAny_nameGoes_keeps hk hn hcls fun h' v hn' hs => ?_
  obtain ⟨oL, _, _, hoL, _⟩ := id hn
  have tracked : HOk X.prog X.w H h' := fun b ob e => by
    refine (I.hok b ob e).stay (fun c w' hc q => (hs.2 c ?_).trans q) (fun _ q => q) fun _ _ q => q
    intro z
    have hfree := I.free
    rw [← z] at hfree
    rcases hc with hc | hc
    · rw [hc] at hfree; rw [hfree] at e; cases e
    · rw [hfree] at hc; cases hc
  refine h _ ⟨I.ok, I.os, I.bare, ⟨fun b o e n hb hx => ?_, fun b o e n hb hx => ?_, I.base.free, fun b o e hx => ?_, I.base.tups, I.base.frzs, I.base.tbls⟩, ⟨_, hn', fun j y v' e1 e2 e3 => ?_⟩, fun y c e => ?_, I.free, I.freeC, fun p hp => ?_, tracked, by simpa using I.len⟩
  · exact (hs.2 b (Nat.ne_of_lt (Nat.lt_of_lt_of_le (Heap.lt_size e) I.ok.above))).trans (I.base.keep b o e n hb hx)
  · obtain ⟨sl, e1⟩ := I.base.slot b o e n hb hx
    exact ⟨sl, (hs.2 b (Nat.ne_of_lt (Nat.lt_of_lt_of_le (Heap.lt_size e) I.ok.above))).trans e1⟩
  · obtain ⟨o', e1⟩ := I.base.there b o e hx
    exact ⟨o', (hs.2 b (Nat.ne_of_lt (Nat.lt_of_lt_of_le (Heap.lt_size e) I.ok.above))).trans e1⟩
  · by_cases hj : j = i
    · subst hj
      rw [List.getElem?_set_self hiσ] at e2
      cases e2
    · rw [List.getElem?_set_ne (Ne.symm hj)] at e2
      obtain ⟨u', r', q⟩ := hl j y v' e1 e2 e3
      refine ⟨u', r', ?_⟩
      rcases q with ⟨k, e⟩ | ⟨k, c, e, z⟩
      · refine .inl ⟨k, ?_⟩
        have : y ≠ n := fun e => hj (nodup_ix hN e1 (e ▸ hi))
        simp [this, e]
      · exact .inr ⟨k, c, e, z.sameBut hs (cne y c e)⟩
  · obtain ⟨w', z⟩ := I.cell y c e
    exact ⟨w', z.sameBut hs (cne y c e)⟩
  · obtain ⟨e, n, ne, nf, d⟩ := I.pin p hp
    exact ⟨(hs.2 p.1 ne).trans e, n, ne, nf, d⟩
theorem inv_caughtG {H' : Hp} {h'' : Heap} {s' : Shared} {a : Addr} {φ : Heap → Prop} (I : Inv X pins σ H s) (ho : s'.os = s.os) (hg : AllBare s'.gens) (u : Un (frs X.stack) [] H H' s.heap h'' ∧ HOk X.prog X.w H' h'')
    (na : H' a = none) (nw : s.heap.get? a = none) (ex : φ h'') (hob : ∃ o, h''.get? a = some o) (sta : ∀ h1 h2 : Heap, φ h1 → (∀ o, h1.get? a = some o → h2.get? a = some o) → φ h2) : Inv X pins σ (upd H' a (.ext φ)) { s' with heap := h'' } := by
  refine inv_behind I ho hg ⟨⟨u.1.keep, u.1.slot, fun b o e n hx => ?_, u.1.there, fun b xs e => ?_, fun b o x e => ?_, fun b ps e => ?_⟩, fun b o e => ?_⟩
  · have : b ≠ a := fun z => by rw [z, nw] at e; cases e
    rw [upd_ne this]
    exact u.1.free b o e n hx
  · have q := u.1.tups b xs e
    rw [upd_ne (ne_of_none q na)]; exact q
  · have q := u.1.frzs b o x e
    rw [upd_ne (ne_of_none q na)]; exact q
  · obtain ⟨m, q⟩ := u.1.tbls b ps e
    exact ⟨m, by rw [upd_ne (ne_of_none q na)]; exact q⟩
  · by_cases hb : b = a
    · subst hb
      rw [upd_same] at e
      cases e
      exact ⟨ex, hob, sta⟩
    · rw [upd_ne hb] at e
      exact (u.2 b o e).stay (fun c v _ q => q) (fun c q => by rw [upd_ne (ne_of_none q na)]; exact q) fun c xs q => by rw [upd_ne (ne_of_none q na)]; exact q
theorem PA.any {es : List Expr} {t : TA} (h : PA X.nox es t) {E' : Value → Shared → Prop} (pos : Pos) {Q : List V → Hp → Prop} (I : Inv X pins σ H s) (q : t σ H Q) :
    wpAny (model X.prog X.w) X.A (spliced (backTo pos (starEach es X.env))) (AP X pins σ Q) E' s :=
  wpAny_mono (h pos pins s σ H Q (I.wish _) q) (fun us s1 ⟨vs, H1, I1, r, q1⟩ => ⟨vs, H1, I1.unwish, r, q1⟩) fun _ _ z => z.elim
end
abbrev Ends.gone (D : Ends) (i : Nat) : Ends := { nx := fun σ H => D.nx (σ.set i none) H, rt := D.rt, bk := fun σ H => D.bk (σ.set i none) H, ct := fun σ H => D.ct (σ.set i none) H }
section
variable {X : Cx} {pins : List (Addr × Obj)} {σ : St} {H H2 : Hp} {s s' : Shared} {a C Bc : Addr} {t : Option Addr} {B : Heap} {D : Ends} {xc n : Str} {np hp : Pos} {b₀ : Stmt} {suite : List Stmt} {rest : List ExceptHandler} {ts : TS} {i : Nat}
theorem handle_asG {φ : Heap → Prop} (hφ : ∀ h o, h.get? a = some o → o.cls = .ref C → o.dict = t → (∃ vs, o.data = .fields vs) → φ h) (sta : ∀ h1 h2 : Heap, φ h1 → (∀ o, h1.get? a = some o → h2.get? a = some o) → φ h2) (I : Inv X pins σ H s) (hst : X.stack = X.env :: X.outer) (hf : X.env.frame = some X.env.locals) (os : s'.os = s.os) (bare : AllBare s'.gens)
    (clo : ∀ h'' : Heap, B.StaysIn h'' → s'.heap.UpToSlots h'' → Un (frs X.stack) [] H H2 s.heap h'' ∧ HOk X.prog X.w H2 h'') (fly : FlyD B X.stack a (.ref C) t .none s'.heap) (na : H2 a = none) (nw : s.heap.get? a = none)
    (hg : Gl X xc) (hcl : X.mg xc = some (.ref Bc)) (hm : PySem.W.exmOne X.K (.ref C) (.ref Bc) = some true) (hs : PSs (X.hnd a) (b₀ :: suite) ts) (hN : X.N.Nodup) (hi : X.N[i]? = some n) (hloc : X.env.scope.names.lookup n = some .local)
    (q : ts (D.gone i) (σ.set i (some (.ref a))) (upd H2 a (.ext φ))) (hdb : (xc == ("__debug__" : Str)) = false := by decide) :
    wpAny (model X.prog X.w) X.A (noteFrame (.ref a) X.env) (fun _ s₂ => wpAny (model X.prog X.w) X.A (setFlight (.ref a) none) (fun _ s₃ =>
      wpAny (model X.prog X.w) X.A (handleBy (.ref a) X.env (.ExceptHandler (some (.Name xc np)) (some n) (b₀ :: suite) hp :: rest)) (SP X pins D) X.xe s₃) X.xe s₂) X.xe s' := by
  have hfr : X.A.frames = some (X.env :: X.outer) := by rw [← hst]; exact I.ok.frames
  have fly' : FlyD B (X.env :: X.outer) a (.ref C) t .none s'.heap := by rw [← hst]; exact fly
  refine note_next hfr hf fly' fun h4 held4 up4 => ?_
  refine fl_none (s := { s' with heap := h4 }) held4 fun h5 fly5 up5 => ?_
  have J5 : Inv X pins σ H2 { s' with heap := h5 } := inv_behind I os bare (clo h5 fly5.1 (up4.trans up5))
  obtain ⟨ob, hob, hobc, _⟩ := fly5.there
  have LT : PySem.W.Looks (model X.prog X.w) h5 (typeOf (.ref a)) (.ref C) := hobc ▸ (PySem.W.Looks.ld hob).andThen .now
  refine wpAny_handleBy_cons (codeAny_handlers_test (ld_glob (X := X.hnd a) (J5.hnd a) hg hcl ?_ hdb)) (by intro q; cases q)
  refine PySem.W.exm_one (K := X.K) J5.kIn LT hm _ _ _ _ (fun _ _ e => e) ?_
  refine codeAny_handlers_suite_as ?_
  refine fl_none (s := { s' with heap := h5 }) fly5 fun h6 fly6 up6 => ?_
  obtain ⟨ob6, hob6, hobc6, hobd6, hobv6⟩ := fly6.there
  have J7 : Inv X pins σ (upd H2 a (.ext φ)) { s' with heap := h6 } := inv_caughtG I os bare (clo h6 fly6.1 ((up4.trans up5).trans up6)) na nw (hφ _ _ hob6 hobc6 hobd6 hobv6) ⟨ob6, hob6⟩ sta
  refine store_ok (X := X.hnd a) (J7.hnd a) hN hi (.inl hloc) (show RelV (.ref a) (Value.ref a) from rfl) (fun s8 J8 => ?_) (.inr hloc)
  refine wpAny_mono (hs pins s8 _ _ (D.gone i) J8 q) (fun f s9 hq => ?_) (fun x s9 z => z.elim)
  cases f with
  | next =>
    obtain ⟨σ', H', J, q⟩ := hq
    exact gone_ok (J.unhnd I.ok) hN hi hloc fun s10 J10 => ⟨_, _, J10, q⟩
  | ret u =>
    obtain ⟨v, σ', H', J, r, q⟩ := hq
    exact gone_ok (J.unhnd I.ok) hN hi hloc fun s10 J10 => ⟨v, _, _, J10, r, q⟩
  | brk =>
    obtain ⟨σ', H', J, q⟩ := hq
    exact gone_ok (J.unhnd I.ok) hN hi hloc fun s10 J10 => ⟨_, _, J10, q⟩
  | cont =>
    obtain ⟨σ', H', J, q⟩ := hq
    exact gone_ok (J.unhnd I.ok) hN hi hloc fun s10 J10 => ⟨_, _, J10, q⟩
end
section
variable {prog : Program} {w : World} {A : Around} {E : Value → Shared → Prop} {s : Shared} {K : PySem.W.Frag} {x D : Addr}
theorem ExcAt.type {M : Model} {h : Heap} (I : ExcAt x D h) : PySem.W.Looks M h (typeOf (.ref x)) (.ref D) := by
  obtain ⟨o, h1, h2⟩ := I
  exact h2 ▸ (PySem.W.Looks.ld h1).andThen .now
structure ExcK (K : PySem.W.Frag) (D : Addr) : Prop where
  cl : (PySem.W.clsIn K D).isSome = true
  ga : PySem.W.findIn K (.ref D) "__getattribute__" = some (some (.builtin "BaseException.__getattribute__"))
  gt : PySem.W.findIn K (.ref D) "__getattr__" = some none
  ha : PySem.W.findIn K (.ref D) "__class__" = some (some (.builtin "object.__class__"))
  hn : PySem.W.specialIn K (.builtin "object.__class__") "__get__" = some (some (.builtin "getset_descriptor.__get__"))
  ht : PySem.W.takesIn K (.builtin "object.__class__") = some true
  hm : PySem.W.mroIn K D (.type "object") = some true
  hb : PySem.W.mroIn K D (.type "BaseException") = some true
end
end L2
namespace L2
open PySem PySem.Spec PySem.Calls PyProof.Rows PySem.W Builtin Builtin.ObjectAttr Builtin.Getset_descriptor
section
variable {prog : Program} {w : World} {A : Around} {E : Value → Shared → Prop} {s : Shared} {K : PySem.W.Frag} {x D : Addr}
theorem exc_find {M : Model} {h : Heap} (X : K.In h) (F : ExcK K D) : Looks M h (find (.ref x) (.ref D) "__class__") (.bind (.builtin "getset_descriptor.__get__") (.builtin "object.__class__")) := by
  have a1 := looks_findIn (M := M) X F.ha
  have a2 : Looks M h (getOf (some (.builtin "object.__class__"))) (some (.builtin "getset_descriptor.__get__")) := looks_specialIn X F.hn
  have a3 : Looks M h (dataDescriptor? (some (.builtin "object.__class__")) (some (.builtin "getset_descriptor.__get__"))) (some (.builtin "getset_descriptor.__get__", .builtin "object.__class__")) := (looks_takesIn (M := M) X F.ht).andThen .now
  exact a1.andThen (a2.andThen (a3.andThen (Looks.tag .now)))
theorem exc_get {R : Result → Shared → Prop} {tp : Value} (X : K.In s.heap) (I : ExcAt x D s.heap) (F : ExcK K D) (h : R (.ok (.ret (.ref D))) s) :
    codeAny (model prog w) A (.call (.builtin "getset_descriptor.__get__") ⟨[.builtin "object.__class__", .ref x, tp], []⟩) R s := by
  obtain ⟨hh, g, dr, t, os⟩ := s
  have y0 := ExcAt.type (M := model prog w) I
  have y1 := looks_mroIn (M := model prog w) X F.hm
  refine codeAny_call_builtin KF.slot_gs.plain KF.entry_gs (KF.slot_gs.check _ _ _ _ _ _ _ _ KF.type_class (KF.args_gs _ _ _) ?_)
  unfold Builtin.«getset_descriptor.__get__» descrGet
  rw [dga_obj]
  refine wpAny_bind (wpAny_pure ?_)
  unfold descrGetter descrCheckInstance descrNameAndClass isInstance
  simp only [KF.owner_class]
  repeat lk
  refine ⟨Code.quiet_builtin _ (by decide +kernel), codeAny_builtin KF.entry_class ?_⟩
  unfold Builtin.«object.__class__» shownTypeOf
  repeat lk
  exact h
theorem exc_check {M : Model} {nameV : Value} {Q : Unit → Shared → Prop} (X : K.In s.heap) (I : ExcAt x D s.heap) (F : ExcK K D) (hq : Q () s) : wpAny M A (checkBuiltinCall "BaseException.__getattribute__" ⟨[.ref x, nameV], []⟩) Q E s := by
  obtain ⟨hh, g, d, t, os⟩ := s
  have y0 := ExcAt.type (M := M) I
  have y1 := looks_mroIn (M := M) X F.hb
  have hk : builtinKind "BaseException.__getattribute__" = some .slot := by decide +kernel
  have hsplit : splitId "BaseException.__getattribute__" = some ("BaseException", "__getattribute__") := by decide +kernel
  have ha := PySem.F.args_bexc_ga (.ref x) nameV
  simp only [checkBuiltinCall, hk, hsplit]
  refine wpAny_bind ?_
  unfold isInstance
  repeat (first | lk | wp_step)
  exact hq
theorem exc_entry {Q : Fin → Shared → Prop} {tk : Tok} (X : K.In s.heap) (I : ExcAt x D s.heap) (F : ExcK K D) (hq : Q (.done (.ret (.ref D))) s) :
    wpAny (model prog w) A (Builtin.«object.__getattribute__» ⟨[.ref x, .str "__class__" tk], []⟩) Q E s := by
  obtain ⟨hh, g, d, t, os⟩ := s
  have y0 := ExcAt.type (M := model prog w) I
  have y2 := exc_find (M := model prog w) (x := x) X F
  unfold Builtin.«object.__getattribute__»
  repeat (any_goals (first | assumption | (with_reducible refine y0.at ?_) | (with_reducible refine y2.at ?_) | wp_step))
  refine exc_get (s := ⟨hh, g, d, t, os⟩) X I F ?_
  repeat (any_goals (first | assumption | (with_reducible refine y0.at ?_) | (with_reducible refine y2.at ?_) | wp_step))
theorem exc_class {Q : Option Value → Shared → Prop} (X : K.In s.heap) (I : ExcAt x D s.heap) (F : ExcK K D) (q : Q (some (.ref D)) { s with toks := s.toks + 1 }) :
    wpAny (model prog w) A (getAttr? (.ref x) "__class__") Q E s := by
  obtain ⟨hh, g, d, t, os⟩ := s
  have y0 := ExcAt.type (M := model prog w) I
  have y1 := looks_findIn (M := model prog w) X F.ga
  have y3 := looks_findIn (M := model prog w) X F.gt
  have f3 := PySem.F.excAttr_ValueError.ga.bind (.ref x)
  have hx1 : (onTheHeap (Value.ref D) && Value.builtin "BaseException.__getattribute__" == Value.builtin "object.__getattribute__") = false := by
    rw [show (Value.builtin "BaseException.__getattribute__" == Value.builtin "object.__getattribute__") = false by decide +kernel]; rfl
  unfold getAttr? getAttrBy? getAttrBy
  refine wpAny_bind (wpAny_mkText (wpAny_bind (wpAny_attempt (wpAny_holding (wpAny_bind (y0.at (wpAny_bind (y1.at ?_))))))))
  dsimp only
  rw [hx1]
  rw [if_neg Bool.false_ne_true]
  unfold getAttrByItsOwn hookBefore
  repeat (any_goals (first | assumption | wp_step | lk))
  refine codeAny_call_builtin PySem.F.excAttr_ValueError.ga.plain PySem.F.entry_bexc_ga (exc_check (s := ⟨hh, g, d, t + 1, os⟩) X I F (exc_entry (s := ⟨hh, g, d, t + 1, os⟩) X I F ?_))
  repeat (any_goals (first | assumption | wp_step | lk))
theorem kitx_exc (F : ExcK K D) : KitX K (.ref x) (.ref D) (ExcAt x D) where
  ty := fun _ _ _ I => I.type
  it := fun M h X _ => by
    obtain ⟨cd, hc⟩ := Option.isSome_iff_exists.mp F.cl
    unfold clsIn at hc
    split at hc
    · rename_i c' d' cd' sl' ho
      intro A' Q' E' s' k q
      unfold isType loadHead
      exact wpAny_bind (wpAny_loadPart (k _ _ (X _ _ ho)) (wpAny_pure q))
    · cases hc
  ne := fun h tp dd its n sl X htp => by
    obtain ⟨cd, hc⟩ := Option.isSome_iff_exists.mp F.cl
    refine Bool.eq_false_iff.mpr fun q => ?_
    have e : D = tp := Value.ref.inj (beq_iff_eq.mp q)
    subst e
    unfold clsIn at hc
    split at hc
    · rename_i c' d' cd' sl' ho
      have z := (X _ _ ho).symm.trans htp
      cases z
    · cases hc
  ca := fun X I k => exc_class X I F k
end
end L2
namespace Fr
theorem absE (i : Int) : (if i < 0 then -i else i) = (i.natAbs : Int) := by omega
theorem gcd_turn (m n : Nat) : Nat.gcd n (m % n) = Nat.gcd m n := by
  rw [Nat.gcd_comm n (m % n), ← Nat.gcd_rec n m, Nat.gcd_comm]
def gcd (a b : Int) : Int := ((Nat.gcd a.natAbs b.natAbs : Nat) : Int)
theorem gcd_nn (a b : Int) : 0 ≤ gcd a b := Int.natCast_nonneg _
theorem gcd_pos {a b : Int} (h : b ≠ 0) : 0 < gcd a b := by
  unfold gcd
  have : 0 < Nat.gcd a.natAbs b.natAbs := Nat.gcd_pos_of_pos_right _ (by omega)
  omega
theorem gcd_le {a b : Int} (h : b ≠ 0) : gcd a b ≤ (b.natAbs : Int) := by
  unfold gcd
  have : Nat.gcd a.natAbs b.natAbs ≤ b.natAbs := Nat.gcd_le_right _ (by omega)
  omega
theorem gcd_dvd_l (a b : Int) : gcd a b ∣ a := by
  unfold gcd
  exact Int.ofNat_dvd_left.mpr (Nat.gcd_dvd_left _ _)
theorem gcd_dvd_r (a b : Int) : gcd a b ∣ b := by
  unfold gcd
  exact Int.ofNat_dvd_left.mpr (Nat.gcd_dvd_right _ _)
def sg (t b : Int) : Int := if b < 0 then 0 - gcd t b else gcd t b
def lt (t b : Int) : Int := t.fdiv (sg t b)
def lb (t b : Int) : Int := b.fdiv (sg t b)
theorem sg_ne {t b : Int} (h : b ≠ 0) : sg t b ≠ 0 := by
  unfold sg
  have := gcd_pos (a := t) h
  split <;> omega
theorem sg_abs {t b : Int} : (sg t b).natAbs = (gcd t b).natAbs := by
  unfold sg
  split <;> omega
theorem sg_dvd_t (t b : Int) : sg t b ∣ t := by
  unfold sg
  split
  · rw [Int.zero_sub]; exact Int.neg_dvd.mpr (gcd_dvd_l t b)
  · exact gcd_dvd_l t b
theorem sg_dvd_b (t b : Int) : sg t b ∣ b := by
  unfold sg
  split
  · rw [Int.zero_sub]; exact Int.neg_dvd.mpr (gcd_dvd_r t b)
  · exact gcd_dvd_r t b
theorem fdiv_mul {a g : Int} (h : g ∣ a) : a.fdiv g * g = a := by
  rw [Int.fdiv_eq_ediv_of_dvd h]
  exact Int.ediv_mul_cancel h
theorem lt_mul (t b : Int) : lt t b * sg t b = t := fdiv_mul (sg_dvd_t t b)
theorem lb_mul (t b : Int) : lb t b * sg t b = b := fdiv_mul (sg_dvd_b t b)
theorem lb_pos {t b : Int} (h : b ≠ 0) : 0 < lb t b := by
  have e := lb_mul t b
  have g := gcd_pos (a := t) h
  have hs : sg t b = if b < 0 then 0 - gcd t b else gcd t b := rfl
  rcases Int.lt_trichotomy (lb t b) 0 with z | z | z
  · exfalso
    by_cases hb : b < 0
    · rw [if_pos hb] at hs
      have : 0 < lb t b * sg t b := by
        rw [hs]
        exact Int.mul_pos_of_neg_of_neg z (by omega)
      omega
    · rw [if_neg hb] at hs
      have : lb t b * sg t b < 0 := by
        rw [hs]
        exact Int.mul_neg_of_neg_of_pos z g
      omega
  · rw [z] at e; omega
  · exact z
theorem low_same {t b : Int} (h : 0 < b) : (lt t b = t ∧ lb t b = b) ↔ gcd t b = 1 := by
  have hs : sg t b = gcd t b := if_neg (by omega)
  have g := gcd_pos (a := t) (b := b) (by omega)
  have e := lb_mul t b
  constructor
  · rintro ⟨-, h2⟩
    rw [h2, hs] at e
    have : b * gcd t b = b * 1 := by omega
    exact Int.eq_of_mul_eq_mul_left (by omega) this
  · intro h1
    unfold lt lb
    rw [hs, h1, Int.fdiv_one, Int.fdiv_one]
    exact ⟨rfl, rfl⟩
theorem log2_small {n k : Nat} (h : n < 2 ^ k) (hk : 0 < k) : n.log2 < k := by
  by_cases z : n = 0
  · subst z; simpa using hk
  · exact (Nat.log2_lt z).mpr h
theorem lb_abs {t b : Int} (h : b ≠ 0) : (lb t b).natAbs ≤ b.natAbs := by
  have e := lb_mul t b
  have g := sg_ne (t := t) h
  have h1 : (lb t b).natAbs * (sg t b).natAbs = b.natAbs := by rw [← Int.natAbs_mul, e]
  have h2 : 1 ≤ (sg t b).natAbs := by omega
  calc (lb t b).natAbs = (lb t b).natAbs * 1 := (Nat.mul_one _).symm
    _ ≤ (lb t b).natAbs * (sg t b).natAbs := Nat.mul_le_mul_left _ h2
    _ = b.natAbs := h1
end Fr
namespace Fr
theorem gcd_comm' (t b : Int) : ((b.gcd t : Nat) : Int) = gcd t b := by
  unfold gcd Int.gcd
  rw [Nat.gcd_comm]
theorem lt_num {t b : Int} (h : b ≠ 0) : lt t b = (Rat.divInt t b).num := by
  have g0 := gcd_pos (a := t) h
  rw [Rat.num_divInt, gcd_comm']
  have e := lt_mul t b
  have d : gcd t b ∣ b.sign * t := Int.dvd_mul_of_dvd_right (gcd_dvd_l t b)
  refine (Int.ediv_eq_of_eq_mul_left (by omega) ?_).symm
  have hs : sg t b = b.sign * gcd t b := by
    unfold sg
    rcases Int.lt_trichotomy b 0 with z | z | z
    · rw [if_pos z, Int.sign_eq_neg_one_of_neg z]; omega
    · exact absurd z h
    · rw [if_neg (by omega), Int.sign_eq_one_of_pos z]; omega
  have h2 : b.sign * b.sign = 1 := by
    rcases Int.lt_trichotomy b 0 with z | z | z
    · rw [Int.sign_eq_neg_one_of_neg z]; rfl
    · exact absurd z h
    · rw [Int.sign_eq_one_of_pos z]; rfl
  calc b.sign * t = b.sign * (lt t b * sg t b) := by rw [e]
    _ = (b.sign * b.sign) * (lt t b * gcd t b) := by rw [hs]; grind
    _ = lt t b * gcd t b := by rw [h2]; omega
theorem lb_den {t b : Int} (h : b ≠ 0) : lb t b = ((Rat.divInt t b).den : Int) := by
  have e1 := lt_mul t b
  have e2 := lb_mul t b
  have s0 := sg_ne (t := t) h
  have n := lt_num (t := t) h
  have c : (Rat.divInt t b).num * b = t * ((Rat.divInt t b).den : Int) := by
    have z : Rat.divInt (Rat.divInt t b).num ((Rat.divInt t b).den : Int) = Rat.divInt t b := Rat.num_divInt_den _
    have d0 : (((Rat.divInt t b).den : Nat) : Int) ≠ 0 := by
      have := (Rat.divInt t b).den_nz
      omega
    exact (Rat.divInt_eq_divInt_iff d0 h).mp z
  by_cases t0 : t = 0
  · subst t0
    have : Rat.divInt 0 b = 0 := Rat.zero_divInt b
    rw [this]
    have g : gcd 0 b = (b.natAbs : Int) := by unfold gcd; simp
    have bp := lb_pos (t := 0) h
    have a1 : (lb 0 b).natAbs * (sg 0 b).natAbs = b.natAbs := by rw [← Int.natAbs_mul, e2]
    rw [sg_abs, g] at a1
    have b0 : 0 < b.natAbs := by omega
    have a2 : (lb 0 b).natAbs = 1 := by
      have : (lb 0 b).natAbs * b.natAbs = 1 * b.natAbs := by simpa using a1
      exact Nat.eq_of_mul_eq_mul_right b0 this
    show lb 0 b = 1
    omega
  · rw [← n] at c
    have h1 : t * lb t b = t * ((Rat.divInt t b).den : Int) := by
      rw [← c]
      calc t * lb t b = (lt t b * sg t b) * lb t b := by rw [e1]
        _ = lt t b * (lb t b * sg t b) := by grind
        _ = lt t b * b := by rw [e2]
    exact Int.eq_of_mul_eq_mul_left t0 h1
theorem den_pos (q : Rat) : 0 < (q.den : Int) := by
  have := q.den_pos
  omega
theorem divInt_rat (q : Rat) : Rat.divInt q.num (q.den : Int) = q := Rat.num_divInt_den q
theorem den_ne (q : Rat) : (q.den : Int) ≠ 0 := by have := den_pos q; omega
theorem sum_rat (p q : Rat) : Rat.divInt (p.num * q.den + q.num * p.den) (p.den * q.den) = p + q := by
  rw [← Rat.divInt_add_divInt _ _ (den_ne p) (den_ne q), divInt_rat, divInt_rat]
theorem less_rat (p q : Rat) : Rat.divInt (p.num * q.den - q.num * p.den) (p.den * q.den) = p - q := by
  rw [← Rat.divInt_sub_divInt _ _ (den_ne p) (den_ne q), divInt_rat, divInt_rat]
theorem prod_rat (p q : Rat) : Rat.divInt (p.num * q.num) (p.den * q.den) = p * q := by
  rw [← Rat.divInt_mul_divInt, divInt_rat, divInt_rat]
theorem quot_rat (p q : Rat) : Rat.divInt (p.num * q.den) (p.den * q.num) = p / q := by
  rw [Rat.div_def, ← Rat.divInt_mul_divInt, divInt_rat]
  congr 1
  have := Rat.inv_divInt q.num q.den
  rw [divInt_rat] at this
  exact this.symm
theorem lt_rat (p q : Rat) : p.num * q.den < q.num * p.den ↔ p < q := (Rat.lt_iff p q).symm
theorem num_zero (q : Rat) : q.num = 0 ↔ q = 0 := Rat.num_eq_zero
end Fr
namespace Fr
theorem lt_abs (t b : Int) (h : b ≠ 0) : (lt t b).natAbs ≤ t.natAbs := by
  have e := lt_mul t b
  have g := sg_ne (t := t) h
  have h1 : (lt t b).natAbs * (sg t b).natAbs = t.natAbs := by rw [← Int.natAbs_mul, e]
  have h2 : 1 ≤ (sg t b).natAbs := by omega
  calc (lt t b).natAbs = (lt t b).natAbs * 1 := (Nat.mul_one _).symm
    _ ≤ (lt t b).natAbs * (sg t b).natAbs := Nat.mul_le_mul_left _ h2
    _ = t.natAbs := h1
end Fr
namespace L2
open PySem PySem.Spec PyProof.Rows
theorem TopFn.calN {c : Bool} {P : Program} {w : World} {K : PySem.W.Frag} {mg : Str → Option Value} {base : Heap} {x : Str} {st : Stmt} {N ps : List Str} {k : Nat} {sp : Sp} (T : TopFn K mg x st) (S : FnScope N ps (defScope st))
    (hb : ∀ (kV doc pm : Value) (an : Option Addr) (cdv ct : Value) (us : List Value), us.length = ps.length → bindArgs (PySem.W.fnOf x x (defArgs st) (defBody st) (defScope st) .none kV doc pm an cdv ct) ⟨us, []⟩ = pure (ps.zip us))
    (len : ∀ vs H Q E, sp vs H Q E → vs.length = ps.length)
    (hbody : ∀ (f : Addr) (cdv : Value) (A : Around) (outer : List Env) (s : Shared) (H : Hp) (vs : List V) (Q : VK) (E : XK), RoomB c k (A.deeper (envOfC x (defScope st) s.heap.objs.size f cdv)) → sp vs H Q E →
      ∃ t, PSs (cxB c P w K mg base N x (defScope st) f cdv A outer s H E).nox (defBody st) t ∧ t { nx := fun _ H' => Q .non H', rt := Q } (start N vs) H) : CalB P w K mg base c (k + 1) x ps sp :=
  T.calB S hb len fun f cdv A outer s H vs Q E hr h => by
    obtain ⟨t, h1, h2⟩ := hbody f cdv A outer s H vs Q E hr h
    exact ⟨t, h1.nox, h2⟩
theorem bt_ValueError : bootBuiltins "ValueError" = some (.type "ValueError") := by decide +kernel
theorem Fun.okB {c : Bool} {P : Program} {w : World} {K : PySem.W.Frag} {mg : Str → Option Value} {base : Heap} {x : Str} {st : Stmt} {f : Addr} {fd : FuncData} {N ps : List Str} {k : Nat} {sp : Sp} (F : Fun K x x st f fd) (S : FnScope N ps (defScope st))
    (len : ∀ vs H Q E, sp vs H Q E → vs.length = ps.length)
    (hbody : ∀ (cdv : Value) (A : Around) (outer : List Env) (s : Shared) (H : Hp) (vs : List V) (Q : VK) (E : XK), RoomB c k (A.deeper (envOfC x (defScope st) s.heap.objs.size f cdv)) → sp vs H Q E →
      ∃ t, PSs (cxB c P w K mg base N x (defScope st) f cdv A outer s H E).nox (defBody st) t ∧ t { nx := fun _ H' => Q .non H', rt := Q } (start N vs) H) : FnB P w K mg base c (k + 1) f fd ps sp := by
  obtain ⟨oc, od, kV, doc, pm, an, cdv, ct, osl, rfl, l, cd⟩ := id F.ex
  exact fnB_of l cd S len fun A outer s H vs Q E hr h => by
    obtain ⟨t, h1, h2⟩ := hbody cdv A outer s H vs Q E hr h
    exact ⟨t, h1.nox, h2⟩
end L2
namespace Lib
open PySem L2
def lim : Nat := 2 ^ 9000
theorem lim_log {n : Nat} (h : n < lim) : n.log2 < 9000 := Fr.log2_small h (by decide)
theorem lim_mul {n : Nat} (h : n < lim) : n < 2 ^ 10000 := Nat.lt_trans h (by unfold lim; decide +kernel)
def spDiv : Sp := fun vs H Q _ => ∃ a b : Int, vs = [.int a, .int b] ∧ Q (.int (Fr.gcd a b)) H
def spLaw (K : PySem.W.Frag) : Sp := fun vs H Q _ => ∃ (a : Addr) (ns : List Int), vs = [.ref a] ∧ SqL K H a (ns.map V.int) ∧ ns.length ≤ 63 ∧ ∀ H', Q (.bl true) H'
theorem decI (i j : Int) : decide (V.int i = V.int j) = decide (i = j) := by
  by_cases h : i = j
  · subst h; simp
  · have : ¬ V.int i = V.int j := fun z => h (V.int.inj z)
    rw [decide_eq_false h, decide_eq_false this]
theorem atI_in {xs : List V} {r : Int} (h0 : 0 ≤ r) (h1 : r < (xs.length : Int)) : ∃ v, atI xs r = some v ∧ v ∈ xs := by
  have hj : r.toNat < xs.length := by omega
  have e : ((r.toNat : Nat) : Int) = r := by omega
  have q : atI xs ((r.toNat : Nat) : Int) = some xs[r.toNat] := atI_nat (List.getElem?_eq_getElem hj)
  rw [e] at q
  exact ⟨_, q, List.getElem_mem hj⟩
theorem eqv_pair (a b c d : Int) : PyData.eqv (.tuple [.int a, .int b]) (.tuple [.int c, .int d]) = (decide (a = c) && decide (b = d)) := by
  simp only [PyData.eqv, PyData.eqvAll, Bool.and_true]
  by_cases h1 : a = c <;> by_cases h2 : b = d <;> simp [h1, h2]
end Lib
namespace Lib
open PySem L2
abbrev frO (q : Rat) : HO := .tup [.int q.num, .int (q.den : Int)]
def lim2 : Nat := 2 ^ 4000
theorem lim2_lim : lim2 < lim := by unfold lim lim2; decide +kernel
theorem lim2_sq : lim2 * lim2 + lim2 * lim2 < lim := by unfold lim lim2; decide +kernel
structure Sm (q : Rat) : Prop where
  n : q.num.natAbs < lim2
  d : q.den < lim2
theorem nat_mul_lt {a b : Nat} (ha : a < lim2) (hb : b < lim2) : a * b < lim2 * lim2 := Nat.mul_lt_mul'' ha hb
theorem mul_lim {x y : Int} (hx : x.natAbs < lim2) (hy : y.natAbs < lim2) : (x * y).natAbs < lim := by
  rw [Int.natAbs_mul]
  have := nat_mul_lt hx hy
  have := lim2_sq
  omega
theorem mulW {x y : Int} (hx : x.natAbs < lim2) (hy : y.natAbs < lim2) : CMulW x y := ⟨lim_mul (Nat.lt_trans hx lim2_lim), lim_mul (Nat.lt_trans hy lim2_lim)⟩
theorem Sm.dn {q : Rat} (h : Sm q) : ((q.den : Int)).natAbs < lim2 := by rw [Int.natAbs_natCast]; exact h.d
theorem den0 (q : Rat) : ((q.den : Nat) : Int) ≠ 0 := by have := q.den_nz; omega
theorem denp (q : Rat) : (0 : Int) < ((q.den : Nat) : Int) := by have := q.den_nz; omega
theorem den_mul0 (p q : Rat) : ((p.den : Int)) * (q.den : Int) ≠ 0 := Int.mul_ne_zero (den0 p) (den0 q)
theorem frO_of {t b : Int} (h : b ≠ 0) : (HO.tup [.int (Fr.lt t b), .int (Fr.lb t b)]) = frO (Rat.divInt t b) := by
  rw [Fr.lt_num h, Fr.lb_den h]
theorem frO_gcd (q : Rat) : Fr.gcd q.num (q.den : Int) = 1 := by
  unfold Fr.gcd
  have := q.reduced
  unfold Nat.Coprime at this
  rw [Int.natAbs_natCast, this]
  rfl
theorem eqv_fr (p q : Rat) : PyData.eqv (.tuple [.int p.num, .int (p.den : Int)]) (.tuple [.int q.num, .int (q.den : Int)]) = decide (p = q) := by
  rw [eqv_pair]
  by_cases h : p = q
  · subst h; simp
  · rw [decide_eq_false h]
    by_cases h1 : p.num = q.num
    · have h2 : ¬ ((p.den : Int) = (q.den : Int)) := fun z => h (Rat.ext h1 (Int.ofNat.inj z))
      simp [h2]
    · simp [h1]
end Lib
namespace Lib
open PySem L2
end Lib
namespace L2
open PySem PySem.Spec PyProof.Rows PySem.Builtin PySem.Builtin.Str
section
variable {X : Cx}
variable {a : Expr} {ta : TE} {es : List Expr} {tr : Str → St → Hp → VK → Prop} {p pos : Pos}
theorem call_all (hc : X.calm = true) : CallR X (.builtin "all") (fun xs H Q => ∃ (p : Addr) (bs : List Bool), xs = [.ref p] ∧ SqL X.K H p (bs.map V.bl) ∧ Q (.bl (bs.all id)) H) := by
  intro pins s σ H xs us Q I r h
  obtain ⟨p, bs, rfl, hp, q⟩ := h
  obtain ⟨u, rfl, ru⟩ := vals1 r
  cases ru
  obtain ⟨its, rv, pl, hz⟩ := I.list hp
  have hlen : its.toArray.size = bs.length := by
    have := rv.length
    rw [List.length_map] at this
    rw [List.size_toArray]; exact this.symm
  have hlt : p < s.heap.objs.size := by
    obtain ⟨o, e, _⟩ := pl.isList
    exact Heap.lt_size e
  have hh : X.A.in1.handled = none := I.ok.hd hc
  refine call_all_walk (wpAny_pyIter_list pl.isList ⟨s.heap.objs.size, _, _, _, _, _, fun i => bs.getD i false, rfl, Walks.list hh s.heap.objs.size p (Nat.ne_of_lt hlt) its.toArray, ⟨⟨_, Heap.get?_push_size _ rfl, rfl, rfl⟩, pl.isList.push _⟩, ?_, fun h' tk k => ?_⟩)
  · intro i v s1 Q1 E1 hP hQ
    have hg : its[i]? = some v := by simpa using hP
    have hb : bs[i]? = some (bs.getD i false) ∧ RelV (.bl (bs.getD i false)) v := by
      have hi : i < bs.length := by
        have := (List.getElem?_eq_some_iff.mp hg).1
        rw [← hlen, List.size_toArray]; exact this
      have e1 : (bs.map V.bl)[i]? = some (.bl (bs.getD i false)) := by
        rw [List.getElem?_map, List.getD_eq_getElem?_getD, List.getElem?_eq_getElem hi]; rfl
      obtain ⟨u, hu, ru⟩ := rv.get e1
      rw [hg] at hu
      cases hu
      refine ⟨?_, ru⟩
      rw [List.getD_eq_getElem?_getD, List.getElem?_eq_getElem hi]; rfl
    obtain ⟨_, ru⟩ := hb
    cases ru
    exact wpAny_truthy_bool hQ
  · have e : (List.range its.toArray.size).all (fun i => bs.getD i false) = bs.all id := by
      rw [hlen]
      clear hlen rv q k hp hz
      induction bs with
      | nil => rfl
      | cons b r ih =>
        rw [List.length_cons, List.range_succ_eq_map, List.all_cons, List.all_map, List.all_cons, ← ih]
        rfl
    rw [e]
    exact ⟨.bl _, H, I.kept (h' := h') (t' := tk) fun b o e => k b o (by
      intro hb
      have : b = s.heap.objs.size := by simpa using hb
      exact absurd (Heap.lt_size e) (by rw [this]; exact Nat.lt_irrefl _)) (Heap.get?_push_of_some _ e), rfl, q⟩
end
end L2
namespace L2
open PySem PySem.Spec PyProof.Rows PySem.Builtin PySem.Builtin.Str
end L2
namespace Tx
open PySem PySem.Builtin PySem.Builtin.Str PySem.NumText PyProof.Rows
end Tx
namespace Tx
open PySem PySem.Builtin PySem.Builtin.Str PySem.NumText PyProof.Rows
end Tx
namespace Lib
open PySem L2 Tx PySem.NumText
end Lib
namespace Lib
open PySem L2 Tx PySem.NumText
end Lib
namespace Tx
end Tx
namespace Lib
open PySem L2 Tx PySem.NumText
theorem rat_of {i j : Int} (h1 : 1 ≤ j) (h2 : Fr.gcd i j = 1) : ∃ q : Rat, q.num = i ∧ ((q.den : Nat) : Int) = j := by
  have hj : j ≠ 0 := by omega
  obtain ⟨g1, g2⟩ := (Fr.low_same (t := i) (b := j) (by omega)).mpr h2
  exact ⟨Rat.divInt i j, by rw [← Fr.lt_num hj, g1], by rw [← Fr.lb_den hj, g2]⟩
end Lib
namespace Lib
open PySem L2 Tx
def spOfG : Sp := fun vs H Q _ => ∃ t b : Int, vs = [.int t, .int b] ∧ b ≠ 0 ∧ b.natAbs < lim ∧ ∀ p, H p = none → Q (.ref p) (upd H p (.tup [.int (Fr.lt t b), .int (Fr.lb t b)]))
end Lib
namespace L2
open PySem PySem.Spec PyProof.Rows
section
variable {prog : Program} {w : World} {A : Around} {R : Result → Shared → Prop} {s : Shared}
theorem compLoop_own {elt target iter : Expr} {ifs : List Expr} {scope : Scope} {pos : Pos} {it acc : Value} {env : Env} (I : Nat → Shared → Prop)
    (turn : ∀ n s, I n s → wpAny (model prog w) A (pyNext it) (fun r s₁ => match r with
      | none => R (.ok .next) s₁
      | some v => wpAny (model prog w) A (letOwnedTupleGo target it v) (fun _ s₁' => wpAny (model prog w) A (assign target env v) (fun _ s₂ =>
          wpAny (model prog w) A (forIn ifs true fun c r => if r = true then do let ok ← isTrue c env (eval c env); pure (ForInStep.yield ok) else pure (ForInStep.yield r)) (fun ok s₃ =>
            if ok = true then wpAny (model prog w) A (eval elt env) (fun x s₄ =>
              wpAny (model prog w) A (call (.builtin "list.append") [acc, x]) (fun _ s₅ => ∃ m, m < n ∧ I m s₅) (fun _ _ => False) s₄) (fun _ _ => False) s₃
            else ∃ m, m < n ∧ I m s₃) (fun _ _ => False) s₂) (fun _ _ => False) s₁') (fun _ _ => False) s₁) (fun _ _ => False) s)
    (n : Nat) (h : I n s) :
    codeAny (model prog w) A (.compLoop (.ListComp elt [⟨target, iter, ifs, 0⟩] scope pos) 0 it acc env) R s := by
  refine codeAny_loop rfl I (fun n s hI => ?_) n h
  show wpAny _ A ((compTurn (.ListComp elt [⟨target, iter, ifs, 0⟩] scope pos) 0 it acc env).onRaise (fun x => do noteFrame x env; theTreesLotGoes x)) _ _ s
  refine wpAny_noted ?_
  rw [compTurn_list]
  refine wpAny_bind (wpAny_standAt (wpAny_bind (wpAny_mono (turn n s hI) (fun r s₁ h₁ => ?_) fun _ _ z => z.elim)))
  cases r with
  | none => exact wpAny_pure h₁
  | some v =>
    refine wpAny_bind (wpAny_mono h₁ (fun _ s₁' h₁' => ?_) fun _ _ z => z.elim)
    refine wpAny_bind (wpAny_mono h₁' (fun _ s₂ h₂ => wpAny_bind (wpAny_mono h₂ (fun ok s₃ h₃ => ?_) fun _ _ z => z.elim)) fun _ _ z => z.elim)
    cases ok with
    | false => exact wpAny_pure ⟨rfl, h₃⟩
    | true =>
      exact wpAny_bind (wpAny_bind (wpAny_mono h₃ (fun x s₄ h₄ => wpAny_bind (wpAny_mono h₄ (fun _ s₅ h₅ => wpAny_pure (wpAny_pure ⟨rfl, h₅⟩)) fun _ _ z => z.elim)) fun _ _ z => z.elim))
end
def cxC (X : Cx) (scope : Scope) (cl : List (Str × Addr)) (N' : List Str) (C : Addr) (fp : List Addr) (pins : List (Addr × Obj)) (s2 : Shared) (H2 : Hp) : Cx :=
  { X with N := N', s₀ := s2, H₀ := H2, env := compEnvC scope cl C X.env, outer := X.stack, ex := fp, fn := fun _ => false, pn := X.pn ++ pins, xe := fun _ _ => False }
structure CapOk (X : Cx) (scope : Scope) (cl : List (Str × Addr)) : Prop where
  clos : closureFor scope X.env = pure cl
  sub : ∀ y c, cl.lookup y = some c → X.env.cells.lookup y = some c
  has : ∀ y, ((relabel scope X.env).names.lookup y = some .cell ∨ (relabel scope X.env).names.lookup y = some .free) → ∃ c, cl.lookup y = some c
theorem relabel_same {scope : Scope} {env : Env} (hfree : ∀ y ∈ scope.names, y.2 ≠ .free) : (relabel scope env).names = scope.names := by
  unfold relabel
  exact map_eq_self (l := scope.names) fun x hx => by
    obtain ⟨n, k⟩ := x
    have : (k == NameKind.free) = false := by simpa using hfree _ hx
    simp [this]
theorem cap_nil {X : Cx} {scope : Scope} (hfree : ∀ y ∈ scope.names, y.2 ≠ .free) (hcell : ∀ y ∈ scope.names, y.2 ≠ .cell) : CapOk X scope [] := by
  refine ⟨closureFor_none hfree, fun y c e => (by simp at e), fun y e => ?_⟩
  rw [relabel_same hfree] at e
  exfalso
  rcases e with e | e
  · exact hcell _ (PySem.mem_of_lookup e) rfl
  · exact hfree _ (PySem.mem_of_lookup e) rfl
def capSt (caps : List (Option Nat)) (σ : St) : St := caps.map fun o => o.bind fun j => (σ[j]?).join
section
variable {X : Cx} {pins : List (Addr × Obj)} {σ : St} {H2 : Hp} {s2 : Shared} {scope : Scope} {cl : List (Str × Addr)} {N' : List Str} {C : Addr} {fp : List Addr} {caps : List (Option Nat)}
theorem notStk (I : Inv X pins σ H2 s2) {b : Addr} (h1 : b ≠ X.env.locals) (h2 : b ∉ X.fs) : b ∉ frs X.stack := fun z => (List.mem_cons.mp (I.stkSub b z)).elim h1 h2
theorem inv_comp (I : Inv X pins σ H2 s2) (hf : ∀ b ∈ fp, FpOk X pins H2 b) (hl : ∀ b ∈ fp, b < s2.heap.objs.size) (hk : scope.kind = .function) (cap : CapOk X scope cl) (hC : s2.heap.objs.size ≤ C) {s4 : Shared} (os : s4.os = s2.os) (bare : AllBare s4.gens)
    (k : ∀ b o, s2.heap.get? b = some o → s4.heap.get? b = some o) (ns : s4.heap.Ns C fun _ => none) (hN : caps.length = N'.length)
    (hcap : ∀ (i j : Nat), caps[i]? = some (some j) → ∃ y : Str, N'[i]? = some y ∧ X.N[j]? = some y ∧ (relabel scope X.env).names.lookup y = some .cell ∧ X.env.scope.names.lookup y = some .cell) :
    Inv (cxC X scope cl N' C fp pins s2 H2) [] (capSt caps σ) H2 s4 := by
  have neC : ∀ b : Addr, b < s2.heap.objs.size → b ≠ C := fun b h => Nat.ne_of_lt (Nat.lt_of_lt_of_le h hC)
  refine ⟨⟨I.ok.mod, ?_, I.ok.glob, I.ok.blt, hC, fun y z c h1 h2 => I.ok.inj y z c (cap.sub y c h1) (cap.sub z c h2), fun y h => cap.has y h, (fun y c z => nomatch z), I.ok.hd, I.ok.frames, .inl rfl, fun b hb => ⟨neC b (hl b hb), fun y c e => (hf b hb).2.2.2.2.1 y c (cap.sub y c e)⟩,
    fun b o e => I.bs b o e, Nat.le_trans I.ok.bsz I.sz, fun b o e hb => ?_, fun b hb => notStk I (hf b hb).2.1 (hf b hb).2.2.1, I.stack, I.stkFree⟩,
    os, bare, Un.kept k, ⟨_, ns, fun i y v h1 h2 h3 => ?_⟩, fun y c e => ?_, I.hok.fresh hC, fun y c e => I.freeC y c (cap.sub y c e), fun p hp => ?_, I.hok.kept k, ?_⟩
  · show (relabel scope X.env).kind = .function
    exact hk
  · rcases (hf b hb).2.2.2.1 with z | z
    · exact I.ok.noex b o e z
    · exact absurd (Nat.lt_of_lt_of_le (Heap.lt_size e) (Nat.le_trans I.ok.bsz z)) (Nat.lt_irrefl _)
  · have h1 : N'[i]? = some y := h1
    unfold capSt at h2
    rw [List.getElem?_map] at h2
    cases hc : caps[i]? with
    | none => rw [hc] at h2; cases h2
    | some o =>
      rw [hc] at h2
      cases o with
      | none => cases h2
      | some j =>
        obtain ⟨y', e1, e2, e3, e4⟩ := hcap i j hc
        rw [h1] at e1
        cases e1
        have hj : σ[j]? = some (some v) := by
          have z : (σ[j]?).join = some v := by simpa using h2
          cases q : σ[j]? with
          | none => rw [q] at z; cases z
          | some w' => rw [q] at z; exact congrArg some z
        obtain ⟨m, hn, hm⟩ := I.loc
        obtain ⟨u, ru, lk⟩ := hm j y v e2 hj (.inr (.inl e4))
        refine ⟨u, ru, .inr ⟨.inl e3, ?_⟩⟩
        rcases lk with ⟨z, _⟩ | ⟨_, c, ec, o', ho', hd'⟩
        · rw [show X.env.kindOf y = X.env.scope.names.lookup y from rfl, e4] at z; cases z
        · obtain ⟨c', ec'⟩ := cap.has y (.inl e3)
          have := cap.sub y c' ec'
          rw [ec] at this
          cases this
          exact ⟨c, ec', o', k _ _ ho', hd'⟩
  · obtain ⟨v, o, ho, hd⟩ := I.cell y c (cap.sub y c e)
    exact ⟨v, o, k _ _ ho, hd⟩
  · have hp : p ∈ (X.pn ++ pins) ++ [] := hp
    rw [List.append_nil] at hp
    obtain ⟨e, n, ne, nf, d⟩ := I.pin p hp
    exact ⟨k _ _ e, n, neC _ (Heap.lt_size e), notStk I ne nf, d⟩
  · show (capSt caps σ).length = N'.length
    unfold capSt
    rw [List.length_map]
    exact hN
theorem comp_end {pl : List (Addr × Obj)} {σ' : St} {H' : Hp} {s' : Shared} {D : Addr} {items : Array Value} {ys : List V} {h'' : Heap} (I : Inv X pins σ H2 s2) (hf : ∀ b ∈ fp, FpOk X pins H2 b) (I' : Inv (cxC X scope cl N' C fp pins s2 H2) pl σ' H' s')
    (hpl : s'.heap.PlainList D items) (nD : H' D = none) (newD : s2.heap.get? D = none) (hDC : D ≠ C) (rv : Vals ys items.toList) (hz : ys.length ≤ sizeLine) (sb : Heap.SameBut C s'.heap h'') : Inv X pins σ (upd H' D (.lst ys)) { s' with heap := h'' } := by
  have hC : s2.heap.objs.size ≤ C := I'.ok.above
  have neC : ∀ b o, s2.heap.get? b = some o → b ≠ C := fun b o e => Nat.ne_of_lt (Nat.lt_of_lt_of_le (Heap.lt_size e) hC)
  have nC : H' C = none := I'.free
  obtain ⟨n0, ho⟩ := hpl
  refine I.call' (s' := { s' with heap := h'' }) (ch := fp) I'.os ⟨fun b o e n hb hx => sb.extBut b o (neC b o e) (I'.base.keep b o e n hb hx), fun b o e n hb hx => ?_, fun b o e n hx => ?_, fun b o e hx => ?_, fun b xs e => ?_, fun b o u e => ?_, fun b ps e => ?_⟩ (fun b o e => ?_) I'.bare fun b hb => ?_
  · obtain ⟨sl, q⟩ := I'.base.slot b o e n hb hx
    exact ⟨sl, sb.extBut b _ (neC b o e) q⟩
  · have : b ≠ D := fun z => by rw [z, newD] at e; cases e
    rw [upd_ne this]
    exact I'.base.free b o e n hx
  · obtain ⟨o', q⟩ := I'.base.there b o e hx
    exact ⟨o', sb.extBut b _ (neC b o e) q⟩
  · have q := I'.base.tups b xs e
    rw [upd_ne (ne_of_none q nD)]; exact q
  · have q := I'.base.frzs b o u e
    rw [upd_ne (ne_of_none q nD)]; exact q
  · obtain ⟨m, q⟩ := I'.base.tbls b ps e
    exact ⟨m, by rw [upd_ne (ne_of_none q nD)]; exact q⟩
  · by_cases hb : b = D
    · subst hb
      rw [upd_same] at e
      cases e
      exact ⟨hz, items.toList, n0, rv, sb.extBut _ _ hDC ho⟩
    · rw [upd_ne hb] at e
      refine (I'.hok b o e).stay (fun c v hc q => sb.extBut c v ?_ q) (fun c q => by rw [upd_ne (ne_of_none q nD)]; exact q) fun c xs q => by rw [upd_ne (ne_of_none q nD)]; exact q
      intro z
      subst z
      rcases hc with z | z
      · rw [← z, nC] at e; cases e
      · rw [nC] at z; cases z
  · obtain ⟨f0, f1, f2, f3, f4, f5⟩ := hf b hb
    exact ⟨f3, f1, f4, f5⟩
end
def PIfs (X : Cx) (ifs : List Expr) (t : TT) : Prop :=
  ∀ (pins : List (Addr × Obj)) (s : Shared) (σ : St) (H : Hp) (Q : Bool → Hp → Prop), Inv X pins σ H s → t σ H Q →
    wpAny (model X.prog X.w) X.A (forIn ifs true fun c r => if r = true then do let ok ← isTrue c X.env (eval c X.env); pure (ForInStep.yield ok) else pure (ForInStep.yield r)) (TP X pins σ Q) X.xe s
def tYes : TT := fun _ H Q => Q true H
theorem pifs_nil {X : Cx} : PIfs X [] tYes := fun pins s σ H Q I h => by
  simp only [List.forIn_nil]
  exact wpAny_pure ⟨H, I, h⟩
theorem pifs_one {X : Cx} {c : Expr} {t : TT} (hc : PT X c t) : PIfs X [c] t := fun pins s σ H Q I h => by
  simp only [List.forIn_cons, List.forIn_nil, if_true]
  exact wpAny_bind (wpAny_bind (wpAny_mono (hc pins s σ H Q I h) (fun b s' hb => wpAny_pure (wpAny_pure hb)) fun _ _ x => x))
def tCompB (g : TG) (tt : TT) (te : TE) (J : It) (σ : St) (H1 : Hp) (Q : VK) : Prop := ∃ W : Nat → Nat → St → List V → Hp → Prop, (∃ m, W 0 m σ [] H1) ∧ ∀ i m σ' ys H, W i m σ' ys H → ys.length ≤ sizeLine ∧
  ((J.stop i H ∧ ∀ p, H p = none → Q (.ref p) (upd H p (.lst ys))) ∨
   (J.go i H ∧ ∀ x H', J.yld i H x H' → g x σ' H' fun σ2 H2 => tt σ2 H2 fun b H3 => if b = true then te σ2 H3 fun y H4 => ∃ m', m' < m ∧ W (i + 1) m' σ2 (ys ++ [y]) H4 else ∃ m', m' < m ∧ W (i + 1) m' σ2 ys H3))
def tComp (wi : TI) (g : TG) (tt : TT) (te : TE) (caps : List (Option Nat)) : TE := fun σ H Q => wi σ H fun J H1 => tCompB g tt te J (capSt caps σ) H1 Q
theorem comp_run {X : Cx} {tg elt iter : Expr} {ifs : List Expr} {scope : Scope} {pos : Pos} {wi : TI} {g : TG} {tt : TT} {te : TE} {cl : List (Str × Addr)} (N' : List Str) (caps : List (Option Nat)) (hc : X.calm = true) (hi : PI X tg iter wi)
    (hg : ∀ C fp pins s2 H2, PG (cxC X scope cl N' C fp pins s2 H2) tg g) (ht : ∀ C fp pins s2 H2, PIfs (cxC X scope cl N' C fp pins s2 H2) ifs tt) (he : ∀ C fp pins s2 H2, PE (cxC X scope cl N' C fp pins s2 H2) elt te)
    (cap : CapOk X scope cl) (hcell : ∀ y ∈ scope.names, y.2 ≠ .cell) (hkind : scope.kind = .function) (hnames : ∀ y ∈ scope.names, y.2 = .local → scope.names.lookup y.1 = some .local) (hN : caps.length = N'.length)
    (hcap : ∀ (i j : Nat), caps[i]? = some (some j) → ∃ y : Str, N'[i]? = some y ∧ X.N[j]? = some y ∧ (relabel scope X.env).names.lookup y = some .cell ∧ X.env.scope.names.lookup y = some .cell)
    (hs : ∀ x, foldedSetIterable iter X.env x = pure x) {pins : List (Addr × Obj)} {s : Shared} {σ : St} {H : Hp} {Q : VK} {use : Option (Value → Sem Unit)} {QQ : Value → Shared → Prop}
    (fin : ∀ (C D : Addr) (fp : List Addr) (s2 s4 : Shared) (H2 H4 : Hp) (pl : List (Addr × Obj)) (σ' : St) (items : Array Value) (ys : List V), Inv X pins σ H2 s2 → (∀ b ∈ fp, FpOk X pins H2 b) → Inv (cxC X scope cl N' C fp pins s2 H2) pl σ' H4 s4 → s4.heap.PlainList D items → H4 D = none → s2.heap.get? D = none → D ≠ C →
      Vals ys items.toList → ys.length ≤ sizeLine → (∀ p, H4 p = none → Q (.ref p) (upd H4 p (.lst ys))) → compPost (model X.prog X.w) X.A X.xe use QQ (.ref D) C (.ok .next) s4)
    (I : Inv X pins σ H s) (h : tComp wi g tt te caps σ H Q) : wpAny (model X.prog X.w) X.A (comprehension (.ListComp elt [⟨tg, iter, ifs, 0⟩] scope pos) scope X.env (firstIterPos [⟨tg, iter, ifs, 0⟩] pos) (newList []) false (eval iter X.env) use) QQ X.xe s := by
  refine wpAny_comprehension_free (use := use) rfl hs cap.clos hkind hnames (thn (hi pins s σ H _ I h) fun xv s₁ h₁ => thn h₁ fun itv s₂ h₂ => ?_)
  obtain ⟨it, fp, tn, J, H2, rfl, I2, T, st2, f2, W, ⟨m0, w0⟩, turn⟩ := h₂
  have hfp : ∀ b ∈ fp, b < s₂.heap.objs.size := fun b hb => by obtain ⟨o, e, _⟩ := T.obj _ _ st2 b hb; exact Heap.lt_size e
  refine wpAny_newObj_type (wpAny_newFunctionEnv hcell (by intro y hy; simp at hy) (fun h₁ hns₁ hsb₁ => ?_) hkind)
  dsimp only at hns₁ hsb₁ ⊢
  generalize hH2 : s₂.heap.push { cls := .type "list", dict := none, data := .seq ([] : List Value).toArray } = H2' at hns₁ hsb₁ ⊢
  have hC : H2'.objs.size = s₂.heap.objs.size + 1 := by rw [← hH2, Heap.size_push]
  have hDC : s₂.heap.objs.size ≠ H2'.objs.size := by rw [hC]; exact Nat.ne_of_lt (Nat.lt_succ_self _)
  have hCle : s₂.heap.objs.size ≤ H2'.objs.size := by rw [hC]; exact Nat.le_succ _
  have below : ∀ b, b < s₂.heap.objs.size → b ≠ H2'.objs.size := fun b hb => by rw [hC]; exact Nat.ne_of_lt (Nat.lt_succ_of_lt hb)
  have old : ∀ b o, s₂.heap.get? b = some o → h₁.get? b = some o := fun b o e => hsb₁.extBut b o (below b (Heap.lt_size e)) (Heap.get?_push_of_some _ (hH2 ▸ Heap.get?_push_of_some _ e))
  have hacc : h₁.PlainList s₂.heap.objs.size #[] := ⟨_, hsb₁.extBut _ _ hDC (Heap.get?_push_of_some _ (hH2 ▸ Heap.get?_push_size _ rfl))⟩
  have newD : s₂.heap.get? s₂.heap.objs.size = none := Heap.get?_none_of_le (Nat.le_refl _)
  have nD2 : H2 s₂.heap.objs.size = none := I2.hok.fresh (Nat.le_refl _)
  generalize hDD : s₂.heap.objs.size = D at *
  generalize hCC : H2'.objs.size = C at *
  have fpD : ∀ b ∈ fp, b ≠ D := fun b hb => Nat.ne_of_lt (hfp b hb)
  have statX : ∀ {H' : Hp} {pl : List (Addr × Obj)}, (∀ p ∈ pl, p.1 = D) → (∀ b ∈ fp, H' b = none) → ∀ b ∈ fp, FpOk (cxC X scope cl N' C fp pins s₂ H2) pl H' b := fun {H' pl} hpl hn b hb => by
    obtain ⟨f0, f1, f2', f3, f4, f5⟩ := f2 b hb
    refine ⟨hn b hb, below b (hfp b hb), notStk I2 f1 f2', .inl hb, fun y c e => f4 y c (cap.sub y c e), fun p hp => ?_⟩
    rcases List.mem_append.mp hp with hp | hp
    · exact f5 p hp
    · rw [hpl p hp]; exact (fpD b hb).symm
  have ht' : ∀ n s', (∃ i σ' ys, ∃ (items : Array Value), ∃ H', Inv (cxC X scope cl N' C fp pins s₂ H2) [] σ' H' s' ∧ tn i s'.heap ∧ (∀ b ∈ fp, H' b = none) ∧ s'.heap.PlainList D items ∧ Vals ys items.toList ∧ H' D = none ∧ W i n σ' ys H') →
      wpAny (model X.prog X.w) X.A (pyNext (.ref it)) (fun r s₁ => match r with
      | none => compPost (model X.prog X.w) X.A X.xe use QQ (.ref D) C (.ok .next) s₁
      | some v => wpAny (model X.prog X.w) X.A (letOwnedTupleGo tg (.ref it) v) (fun _ s₁' => wpAny (model X.prog X.w) X.A (assign tg (compEnvC scope cl C X.env) v) (fun _ s₂' =>
          wpAny (model X.prog X.w) X.A (forIn ifs true fun c r => if r = true then do let ok ← isTrue c (compEnvC scope cl C X.env) (eval c (compEnvC scope cl C X.env)); pure (ForInStep.yield ok) else pure (ForInStep.yield r)) (fun ok s₃ =>
            if ok = true then wpAny (model X.prog X.w) X.A (eval elt (compEnvC scope cl C X.env)) (fun x s₄ =>
              wpAny (model X.prog X.w) X.A (call (.builtin "list.append") [.ref D, x]) (fun _ s₅ => ∃ m, m < n ∧ ∃ i σ' ys, ∃ (items : Array Value), ∃ H', Inv (cxC X scope cl N' C fp pins s₂ H2) [] σ' H' s₅ ∧ tn i s₅.heap ∧ (∀ b ∈ fp, H' b = none) ∧ s₅.heap.PlainList D items ∧ Vals ys items.toList ∧ H' D = none ∧ W i m σ' ys H') (fun _ _ => False) s₄) (fun _ _ => False) s₃
            else ∃ m, m < n ∧ ∃ i σ' ys, ∃ (items : Array Value), ∃ H', Inv (cxC X scope cl N' C fp pins s₂ H2) [] σ' H' s₃ ∧ tn i s₃.heap ∧ (∀ b ∈ fp, H' b = none) ∧ s₃.heap.PlainList D items ∧ Vals ys items.toList ∧ H' D = none ∧ W i m σ' ys H') (fun _ _ => False) s₂') (fun _ _ => False) s₁') (fun _ _ => False) s₁) (fun _ _ => False) s' := by
    rintro n s3 ⟨i, σ3, ys, items, H3, I3, st3, fr3, pl3, rv3, nD3, w3⟩
    obtain ⟨hz, hw⟩ := turn i n σ3 ys H3 w3
    obtain ⟨n0, ho⟩ := id pl3
    have nfsD : D ∉ frs X.stack := fun z => by
      obtain ⟨_, o, e, _⟩ := I2.stack.mem z
      rw [newD] at e; cases e
    have I3p : Inv (cxC X scope cl N' C fp pins s₂ H2) [(D, { cls := .type "list", data := .seq items n0 })] σ3 H3 s3 := I3.pins_of fun p hp => by
      have e : p = (D, { cls := .type "list", data := .seq items n0 }) := by simpa using hp
      subst e
      exact ⟨ho, nD3, hDC, nfsD, fun v z => by cases z⟩
    have one : ∀ p ∈ [(D, ({ cls := .type "list", data := .seq items n0 } : Obj))], p.1 = D := fun p hp => by
      have e : p = (D, { cls := .type "list", data := .seq items n0 }) := by simpa using hp
      subst e; rfl
    rcases hw with ⟨stop, qn⟩ | ⟨go, step⟩
    · refine thn (T.done (cxC X scope cl N' C fp pins s₂ H2) rfl rfl rfl hc i _ s3 σ3 H3 (fun _ _ => False) I3p (statX one fr3) st3 stop) fun r s4 ⟨hr, I4⟩ => ?_
      subst hr
      obtain ⟨e4, nD4, _⟩ := I4.pin _ (List.mem_append_right _ (List.mem_singleton.mpr rfl))
      exact fin C D fp s₂ s4 H2 H3 _ σ3 items ys I2 f2 I4 ⟨n0, e4⟩ nD4 (hDD ▸ newD) hDC rv3 hz qn
    · refine thn (T.item (cxC X scope cl N' C fp pins s₂ H2) rfl rfl rfl hc i _ s3 σ3 H3 (fun _ _ => False) I3p (statX one fr3) st3 go) fun r s4 ⟨u, hr, h4⟩ => ?_
      subst hr
      refine thn h4 fun _ s5 ⟨x, H5, I5, r5, y5, st5, fr5⟩ => ?_
      have I5' := I5.pinned (statX one fr5) (T.obj _ _ st5)
      refine thn (hg C fp pins s₂ H2 _ s5 σ3 H5 x u _ I5' r5 (step x H5 y5)) fun _ s6 ⟨σ6, H6, I6, q6⟩ => ?_
      refine thn (ht C fp pins s₂ H2 _ s6 σ6 H6 _ I6 q6) fun b s7 ⟨H7, I7, q7⟩ => ?_
      have back : ∀ {H8 : Hp} {s8 : Shared}, Inv (cxC X scope cl N' C fp pins s₂ H2) ([(D, ({ cls := .type "list", data := .seq items n0 } : Obj))] ++ pinsAt fp s5.heap) σ6 H8 s8 →
          Inv (cxC X scope cl N' C fp pins s₂ H2) [] σ6 H8 s8 ∧ tn (i + 1) s8.heap ∧ (∀ b ∈ fp, H8 b = none) ∧ s8.heap.PlainList D items ∧ H8 D = none := fun {H8 s8} I8 => by
        refine ⟨I8.pins_of (fun p hp => nomatch hp), T.keep _ _ _ st5 fun b hb o e => (I8.pin (b, o) (List.mem_append_right _ (List.mem_append_right _ (mem_pinsAt hb e)))).1, fun b hb => ?_, ?_, ?_⟩
        · obtain ⟨o, e, d⟩ := T.obj _ _ st5 b hb
          exact (I8.pin (b, o) (List.mem_append_right _ (List.mem_append_right _ (mem_pinsAt hb e)))).2.1
        · exact ⟨n0, (I8.pin _ (List.mem_append_right _ (List.mem_append_left _ (List.mem_singleton.mpr rfl)))).1⟩
        · exact (I8.pin _ (List.mem_append_right _ (List.mem_append_left _ (List.mem_singleton.mpr rfl)))).2.1
      cases b with
      | false =>
        rw [if_neg Bool.false_ne_true] at q7
        obtain ⟨m', hm, w7⟩ := q7
        obtain ⟨J1, J2, J3, J4, J5⟩ := back I7
        rw [if_neg Bool.false_ne_true]
        exact ⟨m', hm, i + 1, σ6, ys, items, H7, J1, J2, J3, J4, rv3, J5, w7⟩
      | true =>
        rw [if_pos rfl] at q7
        rw [if_pos rfl]
        refine thn (he C fp pins s₂ H2 _ s7 σ6 H7 _ I7 q7) fun v s8 ⟨y, H8, I8, r8, m', hm, w8⟩ => ?_
        obtain ⟨J1, J2, J3, J4, J5⟩ := back I8
        have hit : items.size ≤ sizeLine := by
          have e : ys.length = items.size := by simpa using rv3.length
          omega
        refine wpAny_list_append_plain (hsz := hit) J4 fun h9 hl9 hs9 => ?_
        have nc : ∀ y c, cl.lookup y = some c → c ≠ D := fun y c e z => by
          obtain ⟨v, o, ho, _⟩ := I2.cell y c (cap.sub y c e)
          rw [z, newD] at ho; cases ho
        have np : ∀ p ∈ (X.pn ++ pins) ++ [], p.1 ≠ D := fun p hp z => by
          rw [List.append_nil] at hp
          have e := (I2.pin p hp).1
          rw [z, newD] at e; cases e
        have J9 : Inv (cxC X scope cl N' C fp pins s₂ H2) [] σ6 H8 { s8 with heap := h9 } := J1.turned (it := D) (t' := s8.toks) (fun b o hb e => hs9.extBut b o hb e) J5 hDC (.inr (Nat.le_of_eq hDD)) nc np
        refine ⟨m', hm, i + 1, σ6, ys ++ [y], items.push v, H8, J9, T.keep _ _ _ J2 fun b hb o e => hs9.extBut b o (fpD b hb) e, J3, hl9, ?_, J5, w8⟩
        rw [Array.toList_push]
        exact rv3.append (.cons r8 .nil)
  have I0 : Inv (cxC X scope cl N' C fp pins s₂ H2) [] (capSt caps σ) H2 { s₂ with heap := h₁, toks := s₂.toks + ([] : List (Str × Value)).length } :=
    inv_comp I2 f2 (fun b hb => hDD ▸ hfp b hb) hkind cap (by rw [hDD]; exact hCle) rfl I2.bare old hns₁ hN hcap
  have st0 : tn 0 h₁ := T.keep _ _ _ st2 fun b _ o e => old b o e
  have loop : ∀ s₃ : Shared, s₃ = { s₂ with heap := h₁, toks := s₂.toks + ([] : List (Str × Value)).length } →
      codeAny (model X.prog X.w) X.A (.compLoop (.ListComp elt [⟨tg, iter, ifs, 0⟩] scope pos) 0 (.ref it) (.ref D) (compEnvC scope cl C X.env)) (compPost (model X.prog X.w) X.A X.xe use QQ (.ref D) C) s₃ := by
    rintro s₃ rfl
    exact compLoop_own _ ht' m0 ⟨0, _, [], #[], H2, I0, st0, fun b hb => (f2 b hb).1, hacc, .nil, nD2, w0⟩
  exact codeAny_compStart_list (loop _ rfl) (T.self X.A 0 _ _ _ st0 (loop _ rfl))
theorem pe_comp {X : Cx} {tg elt iter : Expr} {ifs : List Expr} {scope : Scope} {pos : Pos} {wi : TI} {g : TG} {tt : TT} {te : TE} {cl : List (Str × Addr)} (N' : List Str) (caps : List (Option Nat)) (hc : X.calm = true) (hi : PI X tg iter wi)
    (hg : ∀ C fp pins s2 H2, PG (cxC X scope cl N' C fp pins s2 H2) tg g) (ht : ∀ C fp pins s2 H2, PIfs (cxC X scope cl N' C fp pins s2 H2) ifs tt) (he : ∀ C fp pins s2 H2, PE (cxC X scope cl N' C fp pins s2 H2) elt te)
    (cap : CapOk X scope cl) (hcell : ∀ y ∈ scope.names, y.2 ≠ .cell) (hkind : scope.kind = .function) (hnames : ∀ y ∈ scope.names, y.2 = .local → scope.names.lookup y.1 = some .local) (hN : caps.length = N'.length)
    (hcap : ∀ (i j : Nat), caps[i]? = some (some j) → ∃ y : Str, N'[i]? = some y ∧ X.N[j]? = some y ∧ (relabel scope X.env).names.lookup y = some .cell ∧ X.env.scope.names.lookup y = some .cell)
    (hs : ∀ x, foldedSetIterable iter X.env x = pure x := by intro _; rfl) :
    PE X (.ListComp elt [⟨tg, iter, ifs, 0⟩] scope pos) (tComp wi g tt te caps) := by
  intro pins s σ H Q I h
  rw [eval_ListComp]
  refine comp_run (use := none) N' caps hc hi hg ht he cap hcell hkind hnames hN hcap hs (fun C D fp s2 s4 H2 H4 pl σ' items ys I2 f2 I4 hpl nD newD hDC rv hz qn => ?_) I h
  obtain ⟨m, hn, _⟩ := I4.loc
  exact ⟨m, hn, fun h' sb => ⟨.ref D, _, comp_end I2 f2 I4 hpl nD newD hDC rv hz sb, rfl, qn D nD⟩⟩
def tSetC (i : Nat) (t : TE) : TS := fun D σ H => t σ H fun v H1 => D.nx (σ.set i (some v)) H1
theorem ps_comp {X : Cx} {tg elt iter : Expr} {ifs : List Expr} {scope : Scope} {pos spos py : Pos} {wi : TI} {g : TG} {tt : TT} {te : TE} {cl : List (Str × Addr)} {y : Str} {i : Nat} (hND : X.N.Nodup) (hiy : X.N[i]? = some y) (hy : Loc X.env.scope y) (N' : List Str) (caps : List (Option Nat)) (hc : X.calm = true) (hi : PI X tg iter wi)
    (hg : ∀ C fp pins s2 H2, PG (cxC X scope cl N' C fp pins s2 H2) tg g) (ht : ∀ C fp pins s2 H2, PIfs (cxC X scope cl N' C fp pins s2 H2) ifs tt) (he : ∀ C fp pins s2 H2, PE (cxC X scope cl N' C fp pins s2 H2) elt te)
    (cap : CapOk X scope cl) (hcell : ∀ y ∈ scope.names, y.2 ≠ .cell) (hkind : scope.kind = .function) (hnames : ∀ y ∈ scope.names, y.2 = .local → scope.names.lookup y.1 = some .local) (hN : caps.length = N'.length)
    (hcap : ∀ (i j : Nat), caps[i]? = some (some j) → ∃ y : Str, N'[i]? = some y ∧ X.N[j]? = some y ∧ (relabel scope X.env).names.lookup y = some .cell ∧ X.env.scope.names.lookup y = some .cell)
    (hs : ∀ x, foldedSetIterable iter X.env x = pure x := by intro _; rfl) (hsw : swapsWith (.ListComp elt [⟨tg, iter, ifs, 0⟩] scope pos) (some (.Name y py)) spos.line X.env = pure true := by rfl)
    (hfn : X.fn y = true ∨ X.env.scope.names.lookup y = some .local := by first | exact .inl rfl | exact .inr rfl | assumption) :
    PS X (.Assign [.Name y py] (.ListComp elt [⟨tg, iter, ifs, 0⟩] scope pos) spos) (tSetC i (tComp wi g tt te caps)) := by
  intro pins s σ H D I h
  rw [exec_Assign_Name_used _ _ _ _ hsw]
  refine wpAny_bind (wpAny_standAt (wpAny_bind ?_))
  show wpAny _ X.A (do let _ ← comprehension (.ListComp elt [⟨tg, iter, ifs, 0⟩] scope pos) scope X.env _ (newList []) false (eval iter X.env) (some (assign (.Name y py) X.env))) _ _ s
  refine wpAny_bind (wpAny_mono (comp_run (use := some (assign (.Name y py) X.env)) (QQ := fun _ s' => SP X pins D .next s') N' caps hc hi hg ht he cap hcell hkind hnames hN hcap hs
    (fun C Dl fp s2 s4 H2 H4 pl σ' items ys I2 f2 I4 hpl nD newD hDC rv hz qn => ?_) I h) (fun _ s' hq => wpAny_pure (wpAny_pure hq)) fun _ _ e => e)
  have hC : s2.heap.objs.size ≤ C := I4.ok.above
  obtain ⟨m, hn, _⟩ := I4.loc
  obtain ⟨oC, es, ep, hoC, hdC, hrest⟩ := id hn
  have J : Inv X pins σ (upd H4 Dl (.lst ys)) s4 := comp_end I2 f2 I4 hpl nD newD hDC rv hz (Heap.SameBut.refl ..)
  have nC : upd H4 Dl (.lst ys) C = none := by rw [upd_ne (Ne.symm hDC)]; exact I4.free
  have c1 : C ≠ X.env.locals := Nat.ne_of_gt (Nat.lt_of_lt_of_le I2.lt hC)
  have c2 : C ∉ X.fs := I2.nofs hC
  have J1 : Inv X (pins ++ [(C, oC)]) σ (upd H4 Dl (.lst ys)) s4 := J.pins_of fun p hp => by
    rcases List.mem_append.mp hp with hp | hp
    · exact J.pin p (List.mem_append_right _ hp)
    · have e : p = (C, oC) := by simpa using hp
      subst e
      exact ⟨hoC, nC, c1, c2, fun v z => by rw [hdC] at z; cases z⟩
  show wpAny _ X.A (assign (.Name y py) X.env (.ref Dl)) _ _ s4
  refine wpAny_assign_Name (store_ok J1 hND hiy hy (show RelV (.ref Dl) (Value.ref Dl) from rfl) (fun s5 J5 => ?_) hfn)
  obtain ⟨e5, _⟩ := J5.pin (C, oC) (List.mem_append_right _ (List.mem_append_right _ (List.mem_singleton.mpr rfl)))
  refine ⟨m, ⟨oC, es, ep, e5, hdC, hrest⟩, fun h' sb => ?_⟩
  have J6 : Inv X pins (σ.set i (some (.ref Dl))) (upd H4 Dl (.lst ys)) s5 := J5.unpinned
  refine ⟨_, _, J6.turned (it := C) (t' := s5.toks) (fun b o hb e => sb.extBut b o hb e) nC c1 (.inr (Nat.le_trans I2.sz hC)) (fun x c e z => ?_) (fun p hp z => ?_), qn Dl nD⟩
  · obtain ⟨v, o, ho, _⟩ := I2.cell x c e
    exact absurd (Heap.lt_size ho) (by rw [z]; exact Nat.not_lt.mpr hC)
  · have e := (I2.pin p hp).1
    exact absurd (Heap.lt_size e) (by rw [z]; exact Nat.not_lt.mpr hC)
end L2
namespace L2
open PySem PySem.Spec PyProof.Rows
theorem SqT.keep {K : PySem.W.Frag} {H H' : Hp} {a : Addr} {xs : List V} (s : Same H H') (h : SqT K H a xs) : SqT K H' a xs := by
  rcases h with (h | ⟨o, h⟩) | h
  · exact .inl (.inl (s _ _ h))
  · exact .inl (.inr ⟨o, s _ _ h⟩)
  · exact .inr h
theorem SqL.keep {K : PySem.W.Frag} {H H' : Hp} {a : Addr} {xs : List V} (s : Same H H') (h : SqL K H a xs) : SqL K H' a xs := s.seq h
mutual
theorem DV.keep {K : PySem.W.Frag} {H H' : Hp} (s : Same H H') : ∀ {v : V} {d : PyData}, DV K H v d → DV K H' v d
  | _, _, .non => .non
  | _, _, .bl b => .bl b
  | _, _, .int i => .int i
  | _, _, .str x => .str x
  | _, _, .lst h q => .lst (h.keep s) (DVs.keep s q)
  | _, _, .tup h q => .tup (h.keep s) (DVs.keep s q)
  | _, _, .dct h => .dct (s _ _ h)
theorem DVs.keep {K : PySem.W.Frag} {H H' : Hp} (s : Same H H') : ∀ {vs : List V} {ds : List PyData}, DVs K H vs ds → DVs K H' vs ds
  | _, _, .nil => .nil
  | _, _, .cons h q => .cons (DV.keep s h) (DVs.keep s q)
end
section
variable {K : PySem.W.Frag} {H : Hp} {v : V} {vs : List V} {d d1 d2 d3 d4 : PyData} {ds : List PyData}
theorem DVs.len : ∀ {vs : List V} {ds : List PyData}, DVs K H vs ds → vs.length = ds.length
  | _, _, .nil => rfl
  | _, _, .cons _ q => by rw [List.length_cons, List.length_cons, DVs.len q]
theorem DVs.nil_of (h : DVs K H vs []) : vs = [] := by cases h; rfl
theorem DVs.cons_of (h : DVs K H vs (d :: ds)) : ∃ x xs, vs = x :: xs ∧ DV K H x d ∧ DVs K H xs ds := by
  cases h with
  | cons h q => exact ⟨_, _, rfl, h, q⟩
theorem DV.tup_of (h : DV K H v (.tuple ds)) : ∃ a xs, v = .ref a ∧ SqT K H a xs ∧ DVs K H xs ds := by
  cases h with
  | tup h q => exact ⟨_, _, rfl, h, q⟩
theorem DV.lst_of (h : DV K H v (.list ds)) : ∃ a xs, v = .ref a ∧ SqL K H a xs ∧ DVs K H xs ds := by
  cases h with
  | lst h q => exact ⟨_, _, rfl, h, q⟩
theorem DVs.one (h : DVs K H vs [d1]) : ∃ x, vs = [x] ∧ DV K H x d1 := by
  cases h with
  | cons h q => cases q; exact ⟨_, rfl, h⟩
theorem DVs.two (h : DVs K H vs [d1, d2]) : ∃ x y, vs = [x, y] ∧ DV K H x d1 ∧ DV K H y d2 := by
  cases h with
  | cons h q =>
    obtain ⟨y, rfl, hy⟩ := q.one
    exact ⟨_, _, rfl, h, hy⟩
theorem DVs.three (h : DVs K H vs [d1, d2, d3]) : ∃ x y z, vs = [x, y, z] ∧ DV K H x d1 ∧ DV K H y d2 ∧ DV K H z d3 := by
  cases h with
  | cons h q =>
    obtain ⟨y, z, rfl, hy, hz⟩ := q.two
    exact ⟨_, _, _, rfl, h, hy, hz⟩
theorem DVs.four (h : DVs K H vs [d1, d2, d3, d4]) : ∃ x y z u, vs = [x, y, z, u] ∧ DV K H x d1 ∧ DV K H y d2 ∧ DV K H z d3 ∧ DV K H u d4 := by
  cases h with
  | cons h q =>
    obtain ⟨y, z, u, rfl, hy, hz, hu⟩ := q.three
    exact ⟨_, _, _, _, rfl, h, hy, hz, hu⟩
theorem DV.t2 (h : DV K H v (.tuple [d1, d2])) : ∃ a x y, v = .ref a ∧ SqT K H a [x, y] ∧ DV K H x d1 ∧ DV K H y d2 := by
  obtain ⟨a, xs, rfl, ha, q⟩ := h.tup_of
  obtain ⟨x, y, rfl, hx, hy⟩ := q.two
  exact ⟨a, x, y, rfl, ha, hx, hy⟩
theorem DV.t3 (h : DV K H v (.tuple [d1, d2, d3])) : ∃ a x y z, v = .ref a ∧ SqT K H a [x, y, z] ∧ DV K H x d1 ∧ DV K H y d2 ∧ DV K H z d3 := by
  obtain ⟨a, xs, rfl, ha, q⟩ := h.tup_of
  obtain ⟨x, y, z, rfl, hx, hy, hz⟩ := q.three
  exact ⟨a, x, y, z, rfl, ha, hx, hy, hz⟩
theorem DV.t4 (h : DV K H v (.tuple [d1, d2, d3, d4])) : ∃ a x y z u, v = .ref a ∧ SqT K H a [x, y, z, u] ∧ DV K H x d1 ∧ DV K H y d2 ∧ DV K H z d3 ∧ DV K H u d4 := by
  obtain ⟨a, xs, rfl, ha, q⟩ := h.tup_of
  obtain ⟨x, y, z, u, rfl, hx, hy, hz, hu⟩ := q.four
  exact ⟨a, x, y, z, u, rfl, ha, hx, hy, hz, hu⟩
theorem DV.int_of {i : Int} (h : DV K H v (.int i)) : v = .int i := by cases h; rfl
theorem DV.str_of {x : Str} (h : DV K H v (.str x)) : v = .str x := by cases h; rfl
theorem DV.bl_of {b : Bool} (h : DV K H v (.bool b)) : v = .bl b := by cases h; rfl
theorem DVs.get : ∀ {vs : List V} {ds : List PyData} {i : Nat} {v : V}, DVs K H vs ds → vs[i]? = some v → ∃ d, ds[i]? = some d ∧ DV K H v d
  | _, _, _, _, .nil, e => by simp at e
  | _, _, 0, _, .cons h _, e => by simp at e; subst e; exact ⟨_, rfl, h⟩
  | _, _, i + 1, v, .cons _ q, e => by
    obtain ⟨d, h1, h2⟩ := DVs.get (i := i) (v := v) q (by simpa using e)
    exact ⟨d, by simpa using h1, h2⟩
theorem DVs.append : ∀ {vs ws : List V} {ds es : List PyData}, DVs K H vs ds → DVs K H ws es → DVs K H (vs ++ ws) (ds ++ es)
  | _, _, _, _, .nil, q => q
  | _, _, _, _, .cons h t, q => .cons h (DVs.append t q)
theorem DVs.take : ∀ {vs : List V} {ds : List PyData} (n : Nat), DVs K H vs ds → DVs K H (vs.take n) (ds.take n)
  | _, _, 0, _ => .nil
  | _, _, _ + 1, .nil => .nil
  | _, _, n + 1, .cons h t => .cons h (DVs.take n t)
theorem DVs.drop : ∀ {vs : List V} {ds : List PyData} (n : Nat), DVs K H vs ds → DVs K H (vs.drop n) (ds.drop n)
  | _, _, 0, h => h
  | _, _, _ + 1, .nil => .nil
  | _, _, n + 1, .cons _ t => DVs.drop n t
end
def tyD : PyData → String
  | .none => "NoneType"
  | .bool _ => "bool"
  | .int _ => "int"
  | .str _ => "str"
  | .list _ => "list"
  | .tuple _ => "tuple"
  | .dict _ => "dict"
section
variable {X : Cx}
theorem call_isiD : CallR X (.builtin "isinstance") (fun xs H Q => ∃ x d c b, xs = [x, .ty c] ∧ DV X.K H x d ∧ bsub (tyD d) c = some b ∧ Q (.bl b) H) := by
  intro pins s σ H xs us Q I r h
  obtain ⟨x, d, c, b, rfl, hd, e, q⟩ := h
  obtain ⟨u, v, rfl, ru, rv⟩ := vals2 r
  cases (show v = Value.type c from rv)
  have e' := kit_b (K := X.K) e
  have fin : ∀ tk, EP X pins σ Q (.bool b) { s with toks := tk } := fun tk => ⟨.bl b, H, I.tok _, rfl, q⟩
  cases hd with
  | non => exact isinst_ok I ru .non e' fin
  | bl b => exact isinst_ok I ru (.bl b) e' fin
  | int i => exact isinst_ok I ru (.int i) e' fin
  | str x => exact isinst_ok I ru (.str x) e' fin
  | lst h _ =>
    cases ru
    obtain ⟨its, rv, ⟨o, n, e1, e2, _⟩, _⟩ := I.list h
    exact PySem.W.kia_one PySem.W.kitx_list I.kIn ⟨o, e1, e2⟩ e' (fun z => nomatch z) fin
  | tup h _ =>
    cases ru
    obtain ⟨its, rv, ⟨o, e1, e2, _⟩, _⟩ := I.tuple h
    exact PySem.W.kia_one PySem.W.kitx_tuple I.kIn ⟨o, e1, e2⟩ e' (fun z => nomatch z) fin
  | dct h => exact isinst_ok I ru (.dK h) e' fin
end
section
variable {X : Cx} {K : PySem.W.Frag}
theorem ix_tupK (hK : X.K = K := by rfl) : IxR X (rIxT K) := hK ▸ ix_tup
end
def Ite (K : PySem.W.Frag) (a : Addr) : It :=
  ⟨fun i H => ∃ xs x, SqL K H a xs ∧ xs[i]? = some x, fun i H x H' => ∃ p v, H p = none ∧ x = .ref p ∧ (∀ xs, SqL K H a xs → xs[i]? = some v) ∧ H' = upd H p (.tup [.int i, v]), fun i H => ∃ xs, SqL K H a xs ∧ xs.length ≤ i⟩
theorem turn_enum {P : Program} {w : World} {K : PySem.W.Frag} {elts : List Expr} {x1} {tpos : Pos} (a e it : Addr) (hne : e ≠ it) : Turn P w K (.Tuple elts x1 tpos) (Ite K a) [e, it] e (fun i h => (∃ old, IsEnum h e it (i : Int) old) ∧ h.IsListIter it a i) where
  mem := by simp
  obj := fun i h ⟨⟨old, st⟩, o', e', c', d'⟩ b hb => by
    rcases List.mem_cons.mp hb with z | z
    · subst z
      exact ⟨_, st, fun v q => by cases q⟩
    · have z : b = it := by simpa using z
      subst z
      exact ⟨o', e', fun v q => by rw [d'] at q; cases q⟩
  keep := fun i h h' ⟨⟨old, st⟩, st'⟩ k => ⟨⟨old, k e (by simp) _ st⟩, st'.at fun o q => k it (by simp) o q⟩
  item := by
    intro X hP hw hK hc i pins s σ H E I hf ⟨⟨old, st⟩, st'⟩ hg
    subst hP hw hK
    obtain ⟨xs, x, hq, hx⟩ := hg
    obtain ⟨its, rv, p, hz⟩ := I.list hq
    obtain ⟨u, hu, ru⟩ := rv.get hx
    obtain ⟨f0, f1, f2, f3, f4, f5⟩ := hf e (by simp)
    obtain ⟨g0, g1, g2, g3, g4, g5⟩ := hf it (by simp)
    refine wpAny_pyNext_enum_item st st' p.isList (x := u) (by simpa using hu) hne fun h1 heo hit1 ht1 hz1 hk1 => ?_
    refine ⟨_, rfl, ?_⟩
    refine wpAny_letOwnedTupleGo_enum heo fun h2 he2 hs2 => ?_
    have nep : ∀ b o, s.heap.get? b = some o → b ≠ s.heap.objs.size := fun b o q => Nat.ne_of_lt (Heap.lt_size q)
    have k2 : ∀ b o, b ≠ e → b ≠ it → s.heap.get? b = some o → h2.get? b = some o := fun b o h1' h2' q => hs2.extBut b o h1' (hk1 b o h1' h2' q)
    have nt : ∀ b o, H b = some o → b ≠ e ∧ b ≠ it := fun b o q => ⟨(fun z => by rw [z, f0] at q; cases q), fun z => by rw [z, g0] at q; cases q⟩
    have hp0 : H s.heap.objs.size = none := I.hok.fresh (Nat.le_refl _)
    have htp : h2.get? s.heap.objs.size = some { cls := .type "tuple", data := .seq #[.int i s.toks, u] } := hs2.extBut _ _ (Nat.ne_of_gt (Heap.lt_size st)) ht1
    have J : Inv X pins σ (upd H s.heap.objs.size (.tup [.int i, x])) { s with heap := h2, toks := s.toks + 1 } := by
      refine I.step (g' := s.gens) (d' := s.drawn) (ch := [e, it]) (fun b hb => ?_) (fun b o _ _ hc' q n => k2 b o (fun z => hc' (by simp [z])) (fun z => hc' (by simp [z])) q) (fun b o _ _ hc' q n => ⟨o.slots, k2 b o (fun z => hc' (by simp [z])) (fun z => hc' (by simp [z])) q⟩)
        (fun b o _ q n => by rw [upd_ne (nep b o q)]; exact n) (fun b o hc' q => ⟨o, k2 b o (fun z => hc' (by simp [z])) (fun z => hc' (by simp [z])) q⟩)
        (fun b ys q => by rw [upd_ne (ne_of_none q hp0)]; exact q) (fun b o y q => by rw [upd_ne (ne_of_none q hp0)]; exact q) (fun b ps q => ⟨#[], by rw [upd_ne (ne_of_none q hp0), q]; simp⟩) (fun m hm => ?_) (fun b o q => ?_) I.bare
      · rcases List.mem_cons.mp hb with z | z
        · subst z; exact ⟨f3, f1, f4, f5⟩
        · have z : b = it := by simpa using z
          subst z; exact ⟨g3, g1, g4, g5⟩
      · obtain ⟨o, es, ep, ho, r⟩ := hm
        exact ⟨o, es, ep, k2 _ o (Ne.symm f1) (Ne.symm g1) ho, r⟩
      · by_cases hb : b = s.heap.objs.size
        · subst hb
          rw [upd_same] at q
          cases q
          exact ⟨by show 2 ≤ sizeLine; decide, [.int i s.toks, u], .cons ⟨_, rfl⟩ (.cons ru .nil), _, htp, rfl, _, rfl⟩
        · rw [upd_ne hb] at q
          refine (I.hok b o q).stay (fun c v hc' z => k2 c v ?_ ?_ z) (fun c z => by rw [upd_ne (ne_of_none z hp0)]; exact z) fun c ys z => by rw [upd_ne (ne_of_none z hp0)]; exact z
          · rcases hc' with z | z
            · rw [z]; exact (nt b o q).1
            · exact (nt c _ z).1
          · rcases hc' with z | z
            · rw [z]; exact (nt b o q).2
            · exact (nt c _ z).2
    refine ⟨.ref s.heap.objs.size, _, J, rfl, ⟨s.heap.objs.size, x, hp0, rfl, (fun ys hy => by rw [I.list_inj hy hq]; exact hx), rfl⟩, ⟨⟨u, ?_⟩, ?_⟩, fun b hb => ?_⟩
    · have z : ((i + 1 : Nat) : Int) = (i : Int) + 1 := by push_cast; rfl
      rw [z]; exact he2
    · exact hit1.extBut hs2.extBut (Ne.symm hne)
    · rcases List.mem_cons.mp hb with z | z
      · subst z
        rw [upd_ne (nep _ _ st)]; exact f0
      · have z : b = it := by simpa using z
        subst z
        obtain ⟨o, q, _⟩ := st'
        rw [upd_ne (nep _ _ q)]; exact g0
  done := by
    intro X hP hw hK hc i pins s σ H E I hf ⟨⟨old, st⟩, st'⟩ hg
    subst hP hw hK
    obtain ⟨xs, hq, hx⟩ := hg
    obtain ⟨its, rv, p, hz⟩ := I.list hq
    obtain ⟨g0, g1, g2, g3, g4, g5⟩ := hf it (by simp)
    have hl := rv.length
    exact wpAny_pyNext_enum_end (I.ok.hd hc) st st' p.isList (by simp; omega) fun h' eb => ⟨rfl, I.turned (t' := s.toks) (fun b o hb e => eb b o hb e) g0 g1 g3 g4 g5⟩
  self := fun _ _ _ _ _ ⟨⟨old, st⟩, _⟩ h => wpAny_pyIter_enum st h
section
variable {X : Cx} {elts : List Expr} {x1 : Nat} {tpos : Pos}
def iEnum (K : PySem.W.Frag) (ta : TA) : TI := fun σ H R => ta σ H fun vs H1 => ∃ a, vs = [.ref a] ∧ (∃ xs, SqL K H1 a xs) ∧ R (Ite K a) H1
theorem pi_enum {a : Expr} {ta : TA} {p pos : Pos} (hg : Gl X "enumerate") (hm : X.mg "enumerate" = none) (ha : PA X [a] ta) (hs : starEach [a] X.env = [(false, eval a X.env)] := by rfl) : PI X (.Tuple elts x1 tpos) (.Call (.Name "enumerate" p) [a] [] pos) (iEnum X.K ta) := by
  intro pins s σ H R I h
  refine Call_ (ld_blt I hg hm boot_enumerate (PyProof.Rows.callWith_type1 (thn (ha pos pins s σ H _ I h) fun us s1 ⟨vs, H1, I1, r1, q1⟩ => ?_) hs rfl))
  obtain ⟨a, e, ⟨xs, hq⟩, q⟩ := q1
  subst e
  obtain ⟨u, rfl, r⟩ := vals1 r1
  cases r
  obtain ⟨its, rv, p, hz⟩ := I1.list hq
  refine call_enumerate_list p.isList fun h' he hi hsz hk => ?_
  have I2 : Inv X pins σ H1 { s1 with heap := h' } := I1.kept (t' := s1.toks) hk
  refine wpAny_pyIter_enum he ⟨s1.heap.objs.size + 1, [s1.heap.objs.size + 1, s1.heap.objs.size], _, _, H1, rfl, I2, turn_enum a _ _ (Nat.succ_ne_self _), ⟨⟨_, he⟩, hi⟩, fun b hb => ?_, q⟩
  rcases List.mem_cons.mp hb with z | z
  · subst z
    exact I1.fpOk (Nat.le_succ _) (I1.hok.fresh (Nat.le_succ _))
  · have z : b = s1.heap.objs.size := by simpa using z
    subst z
    exact I1.fpOk (Nat.le_refl _) (I1.hok.fresh (Nat.le_refl _))
end
theorem for_enum {K : PySem.W.Frag} {a : Addr} {xs : List V} {g : TG} {tb : TS} {D : Ends} {σ : St} {H : Hp} (Pv : Nat → St → Hp → Prop) (h0 : Pv 0 σ H) (hl : ∀ i σ H, i ≤ xs.length → Pv i σ H → SqL K H a xs)
    (hs : ∀ i x σ H p, xs[i]? = some x → Pv i σ H → H p = none → g (.ref p) σ (upd H p (.tup [.int i, x])) fun σ2 H2 => tb { D with nx := Pv (i + 1), ct := Pv (i + 1), bk := D.nx } σ2 H2) (hd : ∀ σ H, Pv xs.length σ H → D.nx σ H) :
    ∃ W : Nat → Nat → St → Hp → Prop, (∃ m, W 0 m σ H) ∧ ∀ i m σ H, W i m σ H →
      ((Ite K a).stop i H ∧ D.nx σ H) ∨ ((Ite K a).go i H ∧ ∃ N : St → Hp → Prop, (∀ σ' H', N σ' H' → ∃ m', m' < m ∧ W (i + 1) m' σ' H') ∧ ∀ x H', (Ite K a).yld i H x H' → g x σ H' fun σ2 H2 => tb { D with nx := N, ct := N, bk := D.nx } σ2 H2) := by
  refine ⟨fun i m σ H => m = xs.length - i ∧ i ≤ xs.length ∧ Pv i σ H, ⟨xs.length, by simp, Nat.zero_le _, h0⟩, ?_⟩
  rintro i m σ H ⟨rfl, hi, p⟩
  have q := hl i σ H hi p
  by_cases hlt : i < xs.length
  · refine .inr ⟨⟨xs, xs[i], q, by simp [hlt]⟩, Pv (i + 1), fun σ' H' p' => ⟨xs.length - (i + 1), by omega, rfl, hlt, p'⟩, fun x H' y => ?_⟩
    obtain ⟨r, v, n, rfl, y, rfl⟩ := y
    exact hs i v σ H r (y xs q) p n
  · have e : i = xs.length := by omega
    subst e
    exact .inl ⟨⟨xs, q, Nat.le_refl _⟩, hd σ H p⟩
def Nx (n : Nat) (Pv : Nat → St → List V → Hp → Prop) (i : Nat) (σ : St) (ys : List V) (H : Hp) : Prop := ∃ m', m' < n - i ∧ (m' = n - (i + 1) ∧ i + 1 ≤ n ∧ Pv (i + 1) σ ys H)
theorem nx {n : Nat} {Pv : Nat → St → List V → Hp → Prop} {i : Nat} {σ : St} {ys : List V} {H : Hp} (hi : i < n) (h : Pv (i + 1) σ ys H) : Nx n Pv i σ ys H := ⟨n - (i + 1), by omega, rfl, hi, h⟩
theorem lt_of_get {α : Type} {xs : List α} {i : Nat} {x : α} (h : xs[i]? = some x) : i < xs.length := (List.getElem?_eq_some_iff.mp h).1
theorem comp_list {K : PySem.W.Frag} {a : Addr} {xs : List V} {g : TG} {tt : TT} {te : TE} {Q : VK} {σ : St} {H : Hp} (Pv : Nat → St → List V → Hp → Prop) (h0 : Pv 0 σ [] H) (hz : ∀ i σ ys H, i ≤ xs.length → Pv i σ ys H → ys.length ≤ sizeLine ∧ SqL K H a xs)
    (hs : ∀ i x σ ys H, xs[i]? = some x → Pv i σ ys H → g x σ H fun σ2 H2 => tt σ2 H2 fun b H3 => if b = true then te σ2 H3 fun y H4 => Nx xs.length Pv i σ2 (ys ++ [y]) H4 else Nx xs.length Pv i σ2 ys H3)
    (hd : ∀ σ ys H p, Pv xs.length σ ys H → H p = none → Q (.ref p) (upd H p (.lst ys))) :
    tCompB g tt te (Itl K a) σ H Q := by
  refine ⟨fun i m σ ys H => m = xs.length - i ∧ i ≤ xs.length ∧ Pv i σ ys H, ⟨xs.length, by simp, Nat.zero_le _, h0⟩, ?_⟩
  rintro i m σ' ys H ⟨rfl, hi, p⟩
  obtain ⟨z, q⟩ := hz i σ' ys H hi p
  refine ⟨z, ?_⟩
  by_cases hlt : i < xs.length
  · refine .inr ⟨⟨xs, xs[i], q, by simp [hlt]⟩, fun x H' y => ?_⟩
    obtain ⟨rfl, y⟩ := y
    exact hs i x σ' ys _ (y xs q) p
  · have e : i = xs.length := by omega
    subst e
    exact .inl ⟨⟨xs, q, Nat.le_refl _⟩, fun r n => hd σ' ys _ r p n⟩
theorem comp_tup {K : PySem.W.Frag} {a : Addr} {xs : List V} {g : TG} {tt : TT} {te : TE} {Q : VK} {σ : St} {H : Hp} (Pv : Nat → St → List V → Hp → Prop) (h0 : Pv 0 σ [] H) (hz : ∀ i σ ys H, i ≤ xs.length → Pv i σ ys H → ys.length ≤ sizeLine ∧ SqT K H a xs)
    (hs : ∀ i x σ ys H, xs[i]? = some x → Pv i σ ys H → g x σ H fun σ2 H2 => tt σ2 H2 fun b H3 => if b = true then te σ2 H3 fun y H4 => Nx xs.length Pv i σ2 (ys ++ [y]) H4 else Nx xs.length Pv i σ2 ys H3)
    (hd : ∀ σ ys H p, Pv xs.length σ ys H → H p = none → Q (.ref p) (upd H p (.lst ys))) :
    tCompB g tt te (Itt K a) σ H Q := by
  refine ⟨fun i m σ ys H => m = xs.length - i ∧ i ≤ xs.length ∧ Pv i σ ys H, ⟨xs.length, by simp, Nat.zero_le _, h0⟩, ?_⟩
  rintro i m σ' ys H ⟨rfl, hi, p⟩
  obtain ⟨z, q⟩ := hz i σ' ys H hi p
  refine ⟨z, ?_⟩
  by_cases hlt : i < xs.length
  · refine .inr ⟨⟨xs, xs[i], q, by simp [hlt]⟩, fun x H' y => ?_⟩
    obtain ⟨rfl, y⟩ := y
    exact hs i x σ' ys _ (y xs q) p
  · have e : i = xs.length := by omega
    subst e
    exact .inl ⟨⟨xs, q, Nat.le_refl _⟩, fun r n => hd σ' ys _ r p n⟩
theorem comp_list0 {K : PySem.W.Frag} {a : Addr} {xs : List V} {g : TG} {te : TE} {Q : VK} {σ : St} {H : Hp} (Pv : Nat → St → List V → Hp → Prop) (h0 : Pv 0 σ [] H) (hz : ∀ i σ ys H, i ≤ xs.length → Pv i σ ys H → ys.length ≤ sizeLine ∧ SqL K H a xs)
    (hs : ∀ i x σ ys H, xs[i]? = some x → Pv i σ ys H → g x σ H fun σ2 H2 => te σ2 H2 fun y H4 => Nx xs.length Pv i σ2 (ys ++ [y]) H4)
    (hd : ∀ σ ys H p, Pv xs.length σ ys H → H p = none → Q (.ref p) (upd H p (.lst ys))) : tCompB g tYes te (Itl K a) σ H Q :=
  comp_list Pv h0 hz (fun i x σ ys H hx hp => by
    have := hs i x σ ys H hx hp
    simpa only [tYes, if_true] using this) hd
theorem comp_tup0 {K : PySem.W.Frag} {a : Addr} {xs : List V} {g : TG} {te : TE} {Q : VK} {σ : St} {H : Hp} (Pv : Nat → St → List V → Hp → Prop) (h0 : Pv 0 σ [] H) (hz : ∀ i σ ys H, i ≤ xs.length → Pv i σ ys H → ys.length ≤ sizeLine ∧ SqT K H a xs)
    (hs : ∀ i x σ ys H, xs[i]? = some x → Pv i σ ys H → g x σ H fun σ2 H2 => te σ2 H2 fun y H4 => Nx xs.length Pv i σ2 (ys ++ [y]) H4)
    (hd : ∀ σ ys H p, Pv xs.length σ ys H → H p = none → Q (.ref p) (upd H p (.lst ys))) : tCompB g tYes te (Itt K a) σ H Q :=
  comp_tup Pv h0 hz (fun i x σ ys H hx hp => by
    have := hs i x σ ys H hx hp
    simpa only [tYes, if_true] using this) hd
theorem nocap {caps : List (Option Nat)} {P : Nat → Nat → Prop} (h : caps.all (·.isNone) = true) : ∀ i j, caps[i]? = some (some j) → P i j := fun i j e => by
  have := List.all_eq_true.mp h _ (List.mem_of_getElem? e)
  cases this
end L2
namespace L2
open PySem PySem.Spec PyProof.Rows
theorem RoomB.room {k : Nat} {A : Around} (r : RoomB true k A) : Room k A := ⟨r.hd rfl, r.dp, r.un⟩
structure MC (P : Program) (w : World) (K : PySem.W.Frag) (mg : Str → Option Value) (base : Heap) (k : Nat) (C : Addr) (m : Str) (ps : List Str) (sp : Sp) : Prop where
  ex : ∃ (f : Addr) (fd : FuncData), FnB P w K mg base true k f fd ps sp ∧ Meth K C m f ∧ Binds K fd ps []
  cl : Cls K C
structure MtFn (K : PySem.W.Frag) (C : Addr) (m qual : Str) (st : Stmt) : Prop where
  ex : ∃ (f : Addr) (fd : FuncData), Fun K m qual st f fd ∧ Meth K C m f
  cl : Cls K C
theorem MtFn.mc {P : Program} {w : World} {K : PySem.W.Frag} {mg : Str → Option Value} {base : Heap} {C : Addr} {m qual : Str} {st : Stmt} {N ps : List Str} {k : Nat} {sp : Sp} (T : MtFn K C m qual st) (S : FnScope N ps (defScope st))
    (hb : ∀ (kV doc pm : Value) (an : Option Addr) (cdv ct : Value) (us : List Value), us.length = ps.length → bindArgs (PySem.W.fnOf m qual (defArgs st) (defBody st) (defScope st) .none kV doc pm an cdv ct) ⟨us, []⟩ = pure (ps.zip us))
    (len : ∀ vs H Q E, sp vs H Q E → vs.length = ps.length)
    (hbody : ∀ (f : Addr) (cdv : Value) (A : Around) (outer : List Env) (s : Shared) (H : Hp) (vs : List V) (Q : VK) (E : XK), RoomB true k (A.deeper (envOfC qual (defScope st) s.heap.objs.size f cdv)) → sp vs H Q E →
      ∃ t, PSs (cxB true P w K mg base N qual (defScope st) f cdv A outer s H E).nox (defBody st) t ∧ t { nx := fun _ H' => Q .non H', rt := Q } (start N vs) H) : MC P w K mg base (k + 1) C m ps sp := by
  obtain ⟨f, fd, F, hm⟩ := T.ex
  obtain ⟨oc, od, kV, doc, pm, an, cdv, ct, osl, rfl, l, cd⟩ := id F.ex
  refine ⟨⟨f, _, fnB_of l cd S len fun A outer s H vs Q E hr h => ?_, hm, F.binds hb⟩, T.cl⟩
  obtain ⟨t, h1, h2⟩ := hbody f cdv A outer s H vs Q E hr h
  exact ⟨t, h1.nox, h2⟩
structure MkC (P : Program) (w : World) (K : PySem.W.Frag) (mg : Str → Option Value) (base : Heap) (k : Nat) (x : Str) (C : Addr) (ps : List Str) (sp : Sp) : Prop where
  ex : ∃ (f : Addr) (fd : FuncData), FnB P w K mg base true k f fd ps sp ∧ Mk K C f ∧ Binds K fd ps []
  mg : mg x = some (.ref C)
structure MkFn (K : PySem.W.Frag) (mg : Str → Option Value) (x : Str) (C : Addr) (qual : Str) (st : Stmt) : Prop where
  ex : ∃ (f : Addr) (fd : FuncData), Fun K "__init__" qual st f fd ∧ Mk K C f
  mg : mg x = some (.ref C)
theorem MkFn.mkc {P : Program} {w : World} {K : PySem.W.Frag} {mg : Str → Option Value} {base : Heap} {x : Str} {C : Addr} {qual : Str} {st : Stmt} {N ps : List Str} {k : Nat} {sp : Sp} (T : MkFn K mg x C qual st) (S : FnScope N ps (defScope st))
    (hb : ∀ (kV doc pm : Value) (an : Option Addr) (cdv ct : Value) (us : List Value), us.length = ps.length → bindArgs (PySem.W.fnOf "__init__" qual (defArgs st) (defBody st) (defScope st) .none kV doc pm an cdv ct) ⟨us, []⟩ = pure (ps.zip us))
    (len : ∀ vs H Q E, sp vs H Q E → vs.length = ps.length)
    (hbody : ∀ (f : Addr) (cdv : Value) (A : Around) (outer : List Env) (s : Shared) (H : Hp) (vs : List V) (Q : VK) (E : XK), RoomB true k (A.deeper (envOfC qual (defScope st) s.heap.objs.size f cdv)) → sp vs H Q E →
      ∃ t, PSs (cxB true P w K mg base N qual (defScope st) f cdv A outer s H E).nox (defBody st) t ∧ t { nx := fun _ H' => Q .non H', rt := Q } (start N vs) H) : MkC P w K mg base (k + 1) x C ps sp := by
  obtain ⟨f, fd, F, hm⟩ := T.ex
  obtain ⟨oc, od, kV, doc, pm, an, cdv, ct, osl, rfl, l, cd⟩ := id F.ex
  refine ⟨⟨f, _, fnB_of l cd S len fun A outer s H vs Q E hr h => ?_, hm, F.binds hb⟩, T.mg⟩
  obtain ⟨t, h1, h2⟩ := hbody f cdv A outer s H vs Q E hr h
  exact ⟨t, h1.nox, h2⟩
section
variable {X : Cx} {k : Nat} {C : Addr} {ps : List Str} {sp : Sp} {x m : Str} {p pos apos : Pos} {e o : Expr} {es : List Expr} {ta : TE} {t : TA}
def tMB (P : Program) (w : World) (K : PySem.W.Frag) (mg : Str → Option Value) (base : Heap) (k : Nat) (m : Str) (ta : TE) (t : TA) : TE := fun σ H Q => ta σ H fun x H1 => ∃ a C dx fs ps sp, x = .ref a ∧ H1 a = some (.ins C dx fs) ∧ fs.lookup m = none ∧
  MC P w K mg base k C m ps sp ∧ t σ H1 fun vs H2 => sp (x :: vs) H2 Q E0
theorem pe_mB {pl : Sem Bool} (he : PE X o ta) (hr : RoomB true k X.A) (ha : PA X (e :: es) t)
    (hst : starEach (e :: es) X.env = (false, eval e X.env) :: starEach es X.env := by rfl) (hpl : (backTo pos (starEach es X.env)).any (·.1) = false := by rfl)
    (ht : eval (.Call (.Attribute o m apos) (e :: es) [] pos) X.env = (do
      let ov ← eval o X.env
      standAt apos.atName
      let (f, first) ← holding [ov] (getMethod ov m pl)
      callWith pos f first (backTo pos (starEach (e :: es) X.env)) (backToKw pos (keywordEach [] X.env))) := by rfl) :
    PE X (.Call (.Attribute o m apos) (e :: es) [] pos) (tMB X.prog X.w X.K X.mg X.base k m ta t) := by
  intro pins s σ H Q I h
  refine PySem.W.methodCall_KW (pl := pl) (thn (he pins s σ H _ I h) fun u s1 ⟨x, H1, I1, rx, a, C, dx, fs, ps, sp, ex, ea, l, M, q⟩ => ?_) ht
  subst ex
  obtain rfl : u = Value.ref a := rx
  obtain ⟨f, fd, F, hm, hb⟩ := M.ex
  refine getmeth_ok I1 ea M.cl hm l ?_
  refine PySem.W.callWith_K (first := [.ref a]) (h₀ := X.base) I.ok.mod.kin hm.kp (thn (ha pos pins s1 σ H1 _ I1 q) fun us s2 ⟨vs, H2, I2, r, q2⟩ => ⟨I2.kIn, ?_⟩) hst hpl
  exact run_fn (us := .ref a :: us) (vs := .ref a :: vs) (dvs := []) (ds := []) (E := E0) F.ok hr.room hb .nil pass01 I2 (.cons rfl r) (by rw [List.append_nil]; exact q2)
theorem pe_mkB (M : MkC X.prog X.w X.K X.mg X.base k x C ps sp) (hr : RoomB true (k + 1) X.A) (ha : PA X (e :: es) t) (hg : Gl X x := by rfl) (hdb : (x == ("__debug__" : Str)) = false := by decide)
    (he : starEach (e :: es) X.env = (false, eval e X.env) :: starEach es X.env := by rfl) (hpl : (backTo pos (starEach es X.env)).any (·.1) = false := by rfl) :
    PE X (.Call (.Name x p) (e :: es) [] pos) (tMake C sp [] E0 t) := by
  obtain ⟨f, fd, F, hm, hb⟩ := M.ex
  exact pe_make hm F.ok hr.room hg M.mg hb .nil pass01 ha hdb he hpl
theorem pe_fldB {f : Str} (he : PE X e ta) (hb : attributeBase e f X.env (eval e X.env) = eval e X.env := by rfl) : PE X (.Attribute e f pos) (tFld X.K ta f) := pe_fld he hb
theorem ps_fldB {f : Str} {pos' : Pos} {value : Expr} {tv : TE} (ha : PE X o ta) (hv : PE X value tv) (hs : swapsWith value (some (.Attribute o f pos')) pos.line X.env = pure false := by rfl) : PS X (.Assign [.Attribute o f pos'] value pos) (sFld X.K ta tv f) := ps_fld ha hv hs
end
end L2
namespace L2
open PySem PySem.Spec PyProof.Rows
theorem clos_run (env : Env) : ∀ (l : List (Str × NameKind)) (acc : List (Str × Addr)), (∀ y ∈ l, y.2 = .free → ∃ c, env.cells.lookup y.1 = some c) →
    ∃ cl, (forIn l acc fun (x : Str × NameKind) (cs : List (Str × Addr)) => (if (x.2 == NameKind.free) = true then (cellOf env x.1 >>= fun a => pure (ForInStep.yield ((x.1, a) :: cs))) else pure (ForInStep.yield cs) : Sem (ForInStep (List (Str × Addr))))) = pure cl ∧
      (∀ y c, cl.lookup y = some c → acc.lookup y = some c ∨ env.cells.lookup y = some c) ∧ (∀ y c, acc.lookup y = some c → ∃ c', cl.lookup y = some c') ∧ ∀ y ∈ l, y.2 = .free → ∃ c, cl.lookup y.1 = some c := by
  intro l
  induction l with
  | nil => intro acc _; exact ⟨acc, rfl, fun y c e => .inl e, fun y c e => ⟨c, e⟩, fun _ h => nomatch h⟩
  | cons x r ih =>
    intro acc h
    obtain ⟨n, k⟩ := x
    have hr : ∀ y ∈ r, y.2 = .free → ∃ c, env.cells.lookup y.1 = some c := fun y hy => h y (List.mem_cons_of_mem _ hy)
    rw [List.forIn_cons]
    by_cases hk : k = .free
    · subst hk
      obtain ⟨c, hc⟩ := h (n, .free) List.mem_cons_self rfl
      have ec : cellOf env n = pure c := by unfold cellOf; rw [show env.cells.lookup n = some c from hc]
      rw [if_pos (by rfl), ec, pure_bind, pure_bind]
      obtain ⟨cl, e, h1, h2, h3⟩ := ih ((n, c) :: acc) hr
      refine ⟨cl, e, fun y c' hy => ?_, fun y c' hy => ?_, fun y hy hf => ?_⟩
      · rcases h1 y c' hy with z | z
        · rw [List.lookup_cons] at z
          split at z
          · rename_i ey
            have ey : y = n := by simpa using ey
            subst ey
            cases z
            exact .inr hc
          · exact .inl z
        · exact .inr z
      · by_cases ey : y = n
        · subst ey
          exact h2 y c (by simp)
        · have eb : (y == n) = false := by simpa using ey
          exact h2 y c' (by rw [List.lookup_cons, eb]; exact hy)
      · rcases List.mem_cons.mp hy with z | z
        · subst z
          exact h2 n c (by simp)
        · exact h3 y z hf
    · have hb : ¬ (k == NameKind.free) = true := by simpa using hk
      rw [if_neg hb, pure_bind]
      obtain ⟨cl, e, h1, h2, h3⟩ := ih acc hr
      refine ⟨cl, e, h1, h2, fun y hy hf => ?_⟩
      rcases List.mem_cons.mp hy with z | z
      · subst z; exact absurd hf hk
      · exact h3 y z hf
theorem cap_of {X : Cx} {scope : Scope} (hcell : ∀ y ∈ scope.names, y.2 ≠ .cell) (hf : ∀ y ∈ scope.names, y.2 = .free → ∃ c, X.env.cells.lookup y.1 = some c) : ∃ cl, CapOk X scope cl := by
  obtain ⟨cl, e, h1, h2, h3⟩ := clos_run X.env scope.names [] hf
  refine ⟨cl, ?_, fun y c hy => ?_, fun y hy => ?_⟩
  · unfold closureFor
    rw [show (pure cl : Sem _) = (pure cl >>= fun cs => pure cs) by rw [pure_bind], ← e]
  · rcases h1 y c hy with z | z
    · simp at z
    · exact z
  · have hm : ∃ k, (y, k) ∈ (relabel scope X.env).names ∧ (k = .cell ∨ k = .free) := by
      rcases hy with z | z
      · exact ⟨_, PySem.mem_of_lookup z, .inl rfl⟩
      · exact ⟨_, PySem.mem_of_lookup z, .inr rfl⟩
    obtain ⟨k, hm, hk⟩ := hm
    unfold relabel at hm
    obtain ⟨⟨n, k'⟩, hn, e'⟩ := List.mem_map.mp hm
    have hk' : k' = .free := by
      by_cases z : k' = .free
      · exact z
      · have zb : (k' == NameKind.free) = false := by simpa using z
        simp only [zb, Bool.false_and, Bool.false_eq_true, if_false, Prod.mk.injEq] at e'
        obtain ⟨_, rfl⟩ := e'
        rcases hk with rfl | rfl
        · exact absurd rfl (hcell _ hn)
        · exact absurd rfl z
    subst hk'
    have en : n = y := by
      dsimp only at e'
      split at e'
      · exact (Prod.mk.inj e').1
      · exact (Prod.mk.inj e').1
    subst en
    exact h3 _ hn rfl
theorem cap_def {X : Cx} {scope : Scope} {n : Nat} (hc : X.env.cells = cellsFrom n X.env.scope.names [] := by rfl) (hcell : ∀ y ∈ scope.names, y.2 ≠ .cell) (hf : ∀ y ∈ scope.names, y.2 = .free → X.env.scope.names.lookup y.1 = some .cell) : ∃ cl, CapOk X scope cl :=
  cap_of hcell fun y hy hz => by
    rw [hc]
    exact cell_has (hf y hy hz)
section
variable {X : Cx} {tg elt iter : Expr} {ifs : List Expr} {scope : Scope} {pos spos py : Pos} {wi : TI} {g : TG} {tt : TT} {te : TE}
theorem ps_compX {y : Str} {i : Nat} (hND : X.N.Nodup) (hiy : X.N[i]? = some y) (hy : Loc X.env.scope y) (N' : List Str) (caps : List (Option Nat)) (hc : X.calm = true) (hi : PI X tg iter wi)
    (hg : ∀ cl C fp pins s2 H2, PG (cxC X scope cl N' C fp pins s2 H2) tg g) (ht : ∀ cl C fp pins s2 H2, PIfs (cxC X scope cl N' C fp pins s2 H2) ifs tt) (he : ∀ cl C fp pins s2 H2, PE (cxC X scope cl N' C fp pins s2 H2) elt te)
    (cap : ∃ cl, CapOk X scope cl) (hcell : ∀ y ∈ scope.names, y.2 ≠ .cell) (hkind : scope.kind = .function) (hnames : ∀ y ∈ scope.names, y.2 = .local → scope.names.lookup y.1 = some .local) (hN : caps.length = N'.length)
    (hcap : ∀ (i j : Nat), caps[i]? = some (some j) → ∃ y : Str, N'[i]? = some y ∧ X.N[j]? = some y ∧ (relabel scope X.env).names.lookup y = some .cell ∧ X.env.scope.names.lookup y = some .cell)
    (hs : ∀ x, foldedSetIterable iter X.env x = pure x := by intro _; rfl) (hsw : swapsWith (.ListComp elt [⟨tg, iter, ifs, 0⟩] scope pos) (some (.Name y py)) spos.line X.env = pure true := by rfl)
    (hfn : X.fn y = true ∨ X.env.scope.names.lookup y = some .local := by first | exact .inl rfl | exact .inr rfl | assumption) :
    PS X (.Assign [.Name y py] (.ListComp elt [⟨tg, iter, ifs, 0⟩] scope pos) spos) (tSetC i (tComp wi g tt te caps)) := by
  obtain ⟨cl, cap⟩ := cap
  exact ps_comp hND hiy hy N' caps hc hi (hg cl) (ht cl) (he cl) cap hcell hkind hnames hN hcap hs hsw hfn
end
end L2
namespace Fr
theorem num_den_le {r : Rat} {t b : Int} (h : b ≠ 0) (e : r = Rat.divInt t b) : r.num.natAbs ≤ t.natAbs ∧ r.den ≤ b.natAbs := by
  subst e
  have h1 := lt_abs t b h
  have h2 := lb_abs (t := t) h
  rw [lt_num h] at h1
  rw [lb_den h, Int.natAbs_natCast] at h2
  exact ⟨h1, h2⟩
structure Bd (k : Nat) (q : Rat) : Prop where
  n : q.num.natAbs < 2 ^ k
  d : q.den < 2 ^ k
theorem pow_le {m n : Nat} (h : m ≤ n) : 2 ^ m ≤ 2 ^ n := Nat.pow_le_pow_right (by decide) h
theorem Bd.mono {m n : Nat} {q : Rat} (h : Bd m q) (le : m ≤ n) : Bd n q := ⟨Nat.lt_of_lt_of_le h.n (pow_le le), Nat.lt_of_lt_of_le h.d (pow_le le)⟩
theorem Bd.neg {n : Nat} {q : Rat} (h : Bd n q) : Bd n (-q) := ⟨by rw [Rat.neg_num, Int.natAbs_neg]; exact h.n, by rw [Rat.neg_den]; exact h.d⟩
theorem Bd.of {n : Nat} {t b : Int} (b0 : b ≠ 0) (ht : t.natAbs < 2 ^ n) (hb : b.natAbs < 2 ^ n) : Bd n (Rat.divInt t b) := by
  obtain ⟨h1, h2⟩ := num_den_le b0 (rfl : Rat.divInt t b = Rat.divInt t b)
  exact ⟨by omega, by omega⟩
theorem mul_lt {a b m n : Nat} (ha : a < 2 ^ m) (hb : b < 2 ^ n) : a * b < 2 ^ (m + n) := by
  rw [Nat.pow_add]
  exact Nat.mul_lt_mul'' ha hb
theorem abs_mul {x y : Int} {m n : Nat} (hx : x.natAbs < 2 ^ m) (hy : y.natAbs < 2 ^ n) : (x * y).natAbs < 2 ^ (m + n) := by
  rw [Int.natAbs_mul]; exact mul_lt hx hy
theorem abs_add {x y : Int} {n : Nat} (hx : x.natAbs < 2 ^ n) (hy : y.natAbs < 2 ^ n) : (x + y).natAbs < 2 ^ (n + 1) := by
  have := Int.natAbs_add_le x y
  rw [Nat.pow_succ]
  omega
theorem abs_sub {x y : Int} {n : Nat} (hx : x.natAbs < 2 ^ n) (hy : y.natAbs < 2 ^ n) : (x - y).natAbs < 2 ^ (n + 1) := by
  rw [Nat.pow_succ]
  omega
theorem Bd.dn {n : Nat} {q : Rat} (h : Bd n q) : ((q.den : Int)).natAbs < 2 ^ n := by rw [Int.natAbs_natCast]; exact h.d
theorem dd0 (p q : Rat) : (p.den : Int) * (q.den : Int) ≠ 0 := Int.mul_ne_zero (den_ne p) (den_ne q)
section
variable {m n : Nat} {p q : Rat} (hp : Bd m p) (hq : Bd n q)
include hp hq
theorem Bd.add : Bd (m + n + 1) (p + q) := by
  rw [← sum_rat]
  refine Bd.of (dd0 p q) (abs_add (abs_mul hp.n hq.dn) ?_) (Nat.lt_of_lt_of_le (abs_mul hp.dn hq.dn) (pow_le (by omega)))
  have := abs_mul hq.n hp.dn
  rw [Nat.add_comm m n]; exact this
theorem Bd.sub : Bd (m + n + 1) (p - q) := by
  rw [← less_rat]
  refine Bd.of (dd0 p q) (abs_sub (abs_mul hp.n hq.dn) ?_) (Nat.lt_of_lt_of_le (abs_mul hp.dn hq.dn) (pow_le (by omega)))
  have := abs_mul hq.n hp.dn
  rw [Nat.add_comm m n]; exact this
theorem Bd.mul : Bd (m + n) (p * q) := by
  rw [← prod_rat]
  exact Bd.of (dd0 p q) (abs_mul hp.n hq.n) (abs_mul hp.dn hq.dn)
theorem Bd.div (q0 : q ≠ 0) : Bd (m + n) (p / q) := by
  rw [← quot_rat]
  refine Bd.of (Int.mul_ne_zero (den_ne p) fun e => q0 ((num_zero q).mp e)) (abs_mul hp.n hq.dn) (abs_mul hp.dn hq.n)
end
structure Rb (n : Nat) (y u : Rat) : Prop where
  ex : ∃ (Y U : Int) (N : Nat), N ≠ 0 ∧ N < 2 ^ n ∧ Y.natAbs < 2 ^ n ∧ U.natAbs < 2 ^ n ∧ y = Rat.divInt Y N ∧ u = Rat.divInt U N
theorem Rb.mono {m n : Nat} {y u : Rat} (h : Rb m y u) (le : m ≤ n) : Rb n y u := by
  obtain ⟨Y, U, N, n0, hn, hY, hU, ey, eu⟩ := h.ex
  have := pow_le le
  exact ⟨Y, U, N, n0, by omega, by omega, by omega, ey, eu⟩
theorem Rb.y {n : Nat} {y u : Rat} (h : Rb n y u) : Bd n y := by
  obtain ⟨Y, U, N, n0, hn, hY, hU, ey, eu⟩ := h.ex
  rw [ey]
  exact Bd.of (by omega) hY (by omega)
theorem Rb.u {n : Nat} {y u : Rat} (h : Rb n y u) : Bd n u := by
  obtain ⟨Y, U, N, n0, hn, hY, hU, ey, eu⟩ := h.ex
  rw [eu]
  exact Bd.of (by omega) hU (by omega)
theorem step_rat (Y U dn : Int) (N dd : Int) (n0 : N ≠ 0) (d0 : dd ≠ 0) : Rat.divInt Y N + Rat.divInt dn dd * Rat.divInt U N = Rat.divInt (Y * dd + dn * U) (N * dd) := by
  rw [Rat.divInt_mul_divInt, Rat.divInt_add_divInt _ _ n0 (Int.mul_ne_zero d0 n0)]
  rw [show Y * (dd * N) + dn * U * N = (Y * dd + dn * U) * N by rw [Int.add_mul, Int.mul_assoc Y], show N * (dd * N) = (N * dd) * N by rw [Int.mul_assoc], Rat.divInt_mul_right n0]
theorem step_low (Y dd N : Int) (n0 : N ≠ 0) (d0 : dd ≠ 0) : Rat.divInt Y N = Rat.divInt (Y * dd) (N * dd) := (Rat.divInt_mul_right d0).symm
theorem Rb.gap {n m : Nat} {y u d : Rat} (h : Rb n y u) (hd : Bd m d) : Rb (n + m + 1) (y + d * u) u := by
  obtain ⟨Y, U, N, n0, hn, hY, hU, ey, eu⟩ := h.ex
  have N0 : (N : Int) ≠ 0 := by omega
  refine ⟨Y * (d.den : Int) + d.num * U, U * (d.den : Int), N * d.den, Nat.mul_ne_zero n0 d.den_nz, Nat.lt_of_lt_of_le (mul_lt hn hd.d) (pow_le (by omega)), abs_add (abs_mul hY hd.dn) ?_, Nat.lt_of_lt_of_le (abs_mul hU hd.dn) (pow_le (by omega)), ?_, ?_⟩
  · have := abs_mul hd.n hU
    rw [Nat.add_comm n m]; exact this
  · have := step_rat Y U d.num N (d.den : Int) N0 (den_ne d)
    rw [divInt_rat, ← ey, ← eu] at this
    rw [this]; simp
  · rw [eu, step_low U (d.den : Int) N N0 (den_ne d)]; simp
theorem Rb.swap {n : Nat} {y u : Rat} (h : Rb n y u) : Rb n u y := by
  obtain ⟨Y, U, N, n0, hn, hY, hU, ey, eu⟩ := h.ex
  exact ⟨U, Y, N, n0, hn, hU, hY, eu, ey⟩
theorem Rb.glass {n m : Nat} {y u d : Rat} (h : Rb n y u) (hd : Bd m d) : Rb (n + m + 1) y (u - d * y) := by
  have := (h.swap.gap hd.neg).swap
  rw [show u - d * y = u + -d * y by rw [Rat.neg_mul, Rat.sub_eq_add_neg]]
  exact this
end Fr
namespace Op
open Fr
inductive Pc where
  | gap (d : Rat)
  | glass (p : Rat)
  | stop (lo hi : Rat)
abbrev Ray := Rat × Rat
def Pc.lets : Pc → Ray → Bool
  | .stop lo hi, r => !decide (r.1 < lo) && !decide (hi < r.1)
  | _, _ => true
def Pc.bent : Pc → Ray → Ray
  | .gap d, r => (r.1 + d * r.2, r.2)
  | .glass p, r => (r.1, r.2 - p * r.1)
  | .stop _ _, r => r
def Pc.ok : Pc → Prop
  | .stop lo hi => ¬ hi < lo
  | _ => True
def Pc.bd (m : Nat) : Pc → Prop
  | .gap d => Bd m d
  | .glass p => Bd m p
  | .stop lo hi => Bd m lo ∧ Bd m hi
abbrev RB (n : Nat) (r : Ray) : Prop := Rb n r.1 r.2
theorem bent_rb {n m : Nat} {r : Ray} : ∀ {p : Pc}, p.bd m → RB n r → RB (n + m + 1) (p.bent r)
  | .gap _, b, h => Rb.gap h b
  | .glass _, b, h => Rb.glass h b
  | .stop _ _, _, h => Rb.mono h (by omega)
end Op
namespace Lib
open PySem L2 Fr Op
def frD (q : Rat) : PyData := .tuple [.int q.num, .int (q.den : Int)]
def rayD (r : Ray) : PyData := .tuple [frD r.1, frD r.2]
def pcD : Pc → PyData
  | .gap d => .tuple [.str "gap", frD d]
  | .glass p => .tuple [.str "glass", frD p]
  | .stop lo hi => .tuple [.str "stop", frD lo, frD hi]
def benchD (ps : List Pc) : PyData := .list (ps.map pcD)
def optD : Option Nat → PyData
  | none => .none
  | some i => .int (i : Int)
section
variable {K : PySem.W.Frag} {H : Hp} {v : V}
theorem _root_.L2.DV.fr {q : Rat} (h : DV K H v (frD q)) : ∃ a, v = .ref a ∧ SqT K H a [.int q.num, .int (q.den : Int)] := by
  obtain ⟨a, x, y, rfl, ha, hx, hy⟩ := DV.t2 h
  rw [hx.int_of, hy.int_of] at ha
  exact ⟨a, rfl, ha⟩
theorem dv_fr {q : Rat} {a : Addr} (h : SqT K H a [.int q.num, .int (q.den : Int)]) : DV K H (.ref a) (frD q) := .tup h (.cons (.int _) (.cons (.int _) .nil))
theorem dv_low {t b : Int} {p : Addr} (b0 : b ≠ 0) : DV K (upd H p (.tup [.int (Fr.lt t b), .int (Fr.lb t b)])) (.ref p) (frD (Rat.divInt t b)) := by
  rw [frO_of b0]
  exact dv_fr (SqT.of upd_same)
end
theorem _root_.Fr.Bd.sm {n : Nat} {q : Rat} (h : Bd n q) (hn : n ≤ 4000) : Sm q := ⟨Nat.lt_of_lt_of_le h.n (by unfold lim2; exact pow_le hn), Nat.lt_of_lt_of_le h.d (by unfold lim2; exact pow_le hn)⟩
structure Flat (n : Nat) (d : PyData) : Prop where
  c : d.canLay0 = true
  d : d.depth ≤ n
theorem Flat.sh {n : Nat} {d : PyData} (h : Flat n d) (hn : n ≤ 64) : SeqAt.shaped d = true := by
  unfold SeqAt.shaped
  rw [h.c, Bool.true_and]
  exact decide_eq_true (Nat.le_trans h.d hn)
theorem flat_all {n : Nat} : ∀ {ds : List PyData}, (∀ d ∈ ds, Flat n d) → PyData.canLayAll0 ds = true ∧ PyData.depthAll ds ≤ n
  | [], _ => ⟨rfl, Nat.zero_le _⟩
  | d :: ds, h => by
    obtain ⟨h1, h2⟩ := flat_all (fun x hx => h x (List.mem_cons_of_mem _ hx))
    have h3 := h d List.mem_cons_self
    refine ⟨?_, ?_⟩
    · rw [PyData.canLayAll0, h3.c, h1]; rfl
    · rw [PyData.depthAll]; exact Nat.max_le.mpr ⟨h3.d, h2⟩
theorem flat_tup {n : Nat} {ds : List PyData} (h : ∀ d ∈ ds, Flat n d) : Flat (n + 1) (.tuple ds) := ⟨(flat_all h).1, by rw [PyData.depth]; exact Nat.succ_le_succ (flat_all h).2⟩
theorem flat_lst {n : Nat} {ds : List PyData} (h : ∀ d ∈ ds, Flat n d) : Flat (n + 1) (.list ds) := ⟨(flat_all h).1, by rw [PyData.depth]; exact Nat.succ_le_succ (flat_all h).2⟩
theorem flat_int (i : Int) : Flat 0 (.int i) := ⟨rfl, Nat.le_refl _⟩
theorem flat_non : Flat 0 .none := ⟨rfl, Nat.le_refl _⟩
theorem Flat.mono {m n : Nat} {d : PyData} (h : Flat m d) (le : m ≤ n) : Flat n d := ⟨h.c, Nat.le_trans h.d le⟩
theorem flat_fr (q : Rat) : Flat 1 (frD q) := ⟨rfl, by show 1 ≤ 1; exact Nat.le_refl _⟩
theorem flat_ray (r : Ray) : Flat 2 (rayD r) := flat_tup fun d hd => by
  simp only [List.mem_cons, List.not_mem_nil, or_false] at hd
  rcases hd with rfl | rfl
  · exact flat_fr _
  · exact flat_fr _
theorem flat_opt : ∀ o : Option Nat, Flat 0 (optD o)
  | none => flat_non
  | some i => flat_int _
theorem flat_map {α : Type} {n : Nat} {f : α → PyData} (h : ∀ x, Flat n (f x)) (l : List α) : ∀ d ∈ l.map f, Flat n d := fun d hd => by
  obtain ⟨x, _, rfl⟩ := List.mem_map.mp hd
  exact h x
section
variable {K : PySem.W.Frag} {H : Hp} {x y : V} {d : PyData} {Q : VK}
theorem eq_same {n : Nat} (hx : DV K H x d) (hy : DV K H y d) (f : Flat n d) (k : Q (.bl true) H) (hn : n ≤ 64 := by decide) : rEqD K x y H Q :=
  ⟨d, d, hx, hy, f.sh hn, f.sh hn, by rw [SeqAt.eqv_refl d f.c]; exact k⟩
theorem ne_frD {p q : Rat} (hx : DV K H x (frD p)) (hy : DV K H y (frD q)) (k : Q (.bl (!decide (p = q))) H) : rNeD K x y H Q :=
  ⟨_, _, hx, hy, (flat_fr p).sh (by decide), (flat_fr q).sh (by decide), by unfold frD; rw [eqv_fr]; exact k⟩
end
mutual
def noL : PyData → Bool
  | .list _ => false
  | .dict _ => false
  | .tuple ds => noLs ds
  | .none => true
  | .bool _ => true
  | .int _ => true
  | .str _ => true
def noLs : List PyData → Bool
  | [] => true
  | d :: ds => noL d && noLs ds
end
def SameT (H H' : Hp) : Prop := ∀ b xs, (H b = some (.tup xs) → H' b = some (.tup xs)) ∧ ∀ o, H b = some (.frz o (.tup xs)) → H' b = some (.frz o (.tup xs))
theorem sameT_upd {H : Hp} {l : Addr} {xs : List V} (h : H l = some (.lst xs)) (o : HO) : SameT H (upd H l o) := fun b ys => ⟨fun e => by rw [upd_ne (fun z => by rw [z, h] at e; cases e)]; exact e, fun o e => by rw [upd_ne (fun z => by rw [z, h] at e; cases e)]; exact e⟩
mutual
theorem dv_keepT {K : PySem.W.Frag} {H H' : Hp} (s : SameT H H') : ∀ {v : V} {d : PyData}, noL d = true → DV K H v d → DV K H' v d
  | _, _, _, .non => .non
  | _, _, _, .bl b => .bl b
  | _, _, _, .int i => .int i
  | _, _, _, .str x => .str x
  | _, _, n, .lst h q => nomatch n
  | _, _, n, .tup h q => .tup (by
      rcases h with (h | ⟨o, h⟩) | h
      · exact .inl (.inl ((s _ _).1 h))
      · exact .inl (.inr ⟨o, (s _ _).2 o h⟩)
      · exact .inr h) (dvs_keepT s n q)
  | _, _, n, .dct h => nomatch n
theorem dvs_keepT {K : PySem.W.Frag} {H H' : Hp} (s : SameT H H') : ∀ {vs : List V} {ds : List PyData}, noLs ds = true → DVs K H vs ds → DVs K H' vs ds
  | _, _, _, .nil => .nil
  | _, _, n, .cons h q => .cons (dv_keepT s (by rw [noLs] at n; exact (Bool.and_eq_true_iff.mp n).1) h) (dvs_keepT s (by rw [noLs] at n; exact (Bool.and_eq_true_iff.mp n).2) q)
end
theorem noLs_map {α : Type} {f : α → PyData} (h : ∀ x, noL (f x) = true) : ∀ l : List α, noLs (l.map f) = true
  | [] => rfl
  | x :: l => by rw [List.map_cons, noLs, h x, noLs_map h l]; rfl
theorem noL_ray (r : Ray) : noL (rayD r) = true := rfl
theorem noL_pc : ∀ p : Pc, noL (pcD p) = true
  | .gap _ => rfl
  | .glass _ => rfl
  | .stop _ _ => rfl
def PR (K : PySem.W.Frag) (R : List PyData → PyData → Prop) : Sp := fun vs H Q _ => ∃ ds d, DVs K H vs ds ∧ R ds d ∧ ∀ v H', Same H H' → DV K H' v d → Q v H'
def RBin (g : Rat → Rat → Rat) : List PyData → PyData → Prop := fun ds d => ∃ p q, ds = [frD p, frD q] ∧ Sm p ∧ Sm q ∧ d = frD (g p q)
def RLess : List PyData → PyData → Prop := fun ds d => ∃ p q, ds = [frD p, frD q] ∧ Sm p ∧ Sm q ∧ d = .bool (decide (p < q))
theorem DV.upd2 {K : PySem.W.Frag} {H : Hp} {r : Addr} {x y : V} {d1 d2 : PyData} (hr : H r = none) (hx : DV K H x d1) (hy : DV K H y d2) : DV K (upd H r (.tup [x, y])) (.ref r) (.tuple [d1, d2]) :=
  .tup (SqT.of upd_same) (.cons (hx.keep (same_new hr _)) (.cons (hy.keep (same_new hr _)) .nil))
theorem DV.upd3 {K : PySem.W.Frag} {H : Hp} {r : Addr} {x y z : V} {d1 d2 d3 : PyData} (hr : H r = none) (hx : DV K H x d1) (hy : DV K H y d2) (hz : DV K H z d3) : DV K (upd H r (.tup [x, y, z])) (.ref r) (.tuple [d1, d2, d3]) :=
  .tup (SqT.of upd_same) (.cons (hx.keep (same_new hr _)) (.cons (hy.keep (same_new hr _)) (.cons (hz.keep (same_new hr _)) .nil)))
theorem DV.upd4 {K : PySem.W.Frag} {H : Hp} {r : Addr} {x y z u : V} {d1 d2 d3 d4 : PyData} (hr : H r = none) (hx : DV K H x d1) (hy : DV K H y d2) (hz : DV K H z d3) (hu : DV K H u d4) : DV K (upd H r (.tup [x, y, z, u])) (.ref r) (.tuple [d1, d2, d3, d4]) :=
  .tup (SqT.of upd_same) (.cons (hx.keep (same_new hr _)) (.cons (hy.keep (same_new hr _)) (.cons (hz.keep (same_new hr _)) (.cons (hu.keep (same_new hr _)) .nil))))
def ratD : PyData → Bool
  | .tuple [.int t, .int b] => decide (1 ≤ b) && decide (Fr.gcd t b = 1)
  | _ => false
theorem ratD_fr (q : Rat) : ratD (frD q) = true := by
  show (decide (1 ≤ (q.den : Int)) && decide (Fr.gcd q.num (q.den : Int) = 1)) = true
  rw [decide_eq_true (by have := denp q; omega), decide_eq_true (frO_gcd q)]
  rfl
theorem ratD_of {d : PyData} (h : ratD d = true) : ∃ q : Rat, d = frD q := by
  unfold ratD at h
  split at h
  · rename_i t b
    obtain ⟨h1, h2⟩ := Bool.and_eq_true_iff.mp h
    obtain ⟨q, rfl, rfl⟩ := rat_of (of_decide_eq_true h1) (of_decide_eq_true h2)
    exact ⟨q, rfl⟩
  · cases h
def isIntD : PyData → Bool
  | .int _ => true
  | _ => false
def isTupD : PyData → Bool
  | .tuple _ => true
  | _ => false
theorem isInt_of {d : PyData} (h : isIntD d = true) : ∃ i, d = .int i := by
  cases d with
  | int i => exact ⟨i, rfl⟩
  | _ => cases h
theorem isTup_of {d : PyData} (h : isTupD d = true) : ∃ ds, d = .tuple ds := by
  cases d with
  | tuple ds => exact ⟨ds, rfl⟩
  | _ => cases h
theorem isInt_b (d : PyData) : ∃ b c, bsub (tyD d) "int" = some b ∧ bsub (tyD d) "bool" = some c ∧ (b && !c) = isIntD d := by
  cases d with
  | none => exact ⟨false, false, by show bsub "NoneType" "int" = _; decide +kernel, by show bsub "NoneType" "bool" = _; decide +kernel, rfl⟩
  | bool b => exact ⟨true, true, by show bsub "bool" "int" = _; decide +kernel, by show bsub "bool" "bool" = _; decide +kernel, rfl⟩
  | int i => exact ⟨true, false, by show bsub "int" "int" = _; decide +kernel, by show bsub "int" "bool" = _; decide +kernel, rfl⟩
  | str x => exact ⟨false, false, by show bsub "str" "int" = _; decide +kernel, by show bsub "str" "bool" = _; decide +kernel, rfl⟩
  | list xs => exact ⟨false, false, by show bsub "list" "int" = _; decide +kernel, by show bsub "list" "bool" = _; decide +kernel, rfl⟩
  | tuple xs => exact ⟨false, false, by show bsub "tuple" "int" = _; decide +kernel, by show bsub "tuple" "bool" = _; decide +kernel, rfl⟩
  | dict xs => exact ⟨false, false, by show bsub "dict" "int" = _; decide +kernel, by show bsub "dict" "bool" = _; decide +kernel, rfl⟩
theorem isTup_b (d : PyData) : bsub (tyD d) "tuple" = some (isTupD d) := by
  cases d with
  | none => show bsub "NoneType" "tuple" = some false; decide +kernel
  | bool b => show bsub "bool" "tuple" = some false; decide +kernel
  | int i => show bsub "int" "tuple" = some false; decide +kernel
  | str x => show bsub "str" "tuple" = some false; decide +kernel
  | list xs => show bsub "list" "tuple" = some false; decide +kernel
  | tuple xs => show bsub "tuple" "tuple" = some true; decide +kernel
  | dict xs => show bsub "dict" "tuple" = some false; decide +kernel
def isLstD : PyData → Bool
  | .list _ => true
  | _ => false
theorem isLst_b (d : PyData) : bsub (tyD d) "list" = some (isLstD d) := by
  cases d with
  | none => show bsub "NoneType" "list" = some false; decide +kernel
  | bool b => show bsub "bool" "list" = some false; decide +kernel
  | int i => show bsub "int" "list" = some false; decide +kernel
  | str x => show bsub "str" "list" = some false; decide +kernel
  | list xs => show bsub "list" "list" = some true; decide +kernel
  | tuple xs => show bsub "tuple" "list" = some false; decide +kernel
  | dict xs => show bsub "dict" "list" = some false; decide +kernel
def isStrD : PyData → Bool
  | .str _ => true
  | _ => false
theorem isStr_of {d : PyData} (h : isStrD d = true) : ∃ x, d = .str x := by
  cases d with
  | str i => exact ⟨i, rfl⟩
  | _ => cases h
theorem isStr_b (d : PyData) : bsub (tyD d) "str" = some (isStrD d) := by
  cases d with
  | none => show bsub "NoneType" "str" = some false; decide +kernel
  | bool b => show bsub "bool" "str" = some false; decide +kernel
  | int i => show bsub "int" "str" = some false; decide +kernel
  | str x => show bsub "str" "str" = some true; decide +kernel
  | list xs => show bsub "list" "str" = some false; decide +kernel
  | tuple xs => show bsub "tuple" "str" = some false; decide +kernel
  | dict xs => show bsub "dict" "str" = some false; decide +kernel
def isBlD : PyData → Bool
  | .bool _ => true
  | _ => false
theorem isBl_b (d : PyData) : bsub (tyD d) "bool" = some (isBlD d) := by
  cases d with
  | none => show bsub "NoneType" "bool" = some false; decide +kernel
  | bool b => show bsub "bool" "bool" = some true; decide +kernel
  | int i => show bsub "int" "bool" = some false; decide +kernel
  | str x => show bsub "str" "bool" = some false; decide +kernel
  | list xs => show bsub "list" "bool" = some false; decide +kernel
  | tuple xs => show bsub "tuple" "bool" = some false; decide +kernel
  | dict xs => show bsub "dict" "bool" = some false; decide +kernel
theorem ratD_no {d : PyData} (h : isTupD d = false) : ratD d = false := by
  cases d with
  | tuple ds => cases h
  | _ => rfl
theorem ratD_len {ds : List PyData} (h : ¬ ds.length = 2) : ratD (.tuple ds) = false := by
  unfold ratD
  split
  · rename_i t b e
    cases e
    exact absurd rfl h
  · rfl
theorem ratD_two {d1 d2 : PyData} (h : isIntD d1 = false ∨ isIntD d2 = false) : ratD (.tuple [d1, d2]) = false := by
  unfold ratD
  split
  · rename_i t b e
    cases e
    rcases h with h | h <;> cases h
  · rfl
def spW (K : PySem.W.Frag) : Sp := fun vs H Q _ => ∃ v d, vs = [v] ∧ DV K H v d ∧ Q (.bl (isIntD d)) H
def spRat (K : PySem.W.Frag) : Sp := fun vs H Q _ => ∃ v d, vs = [v] ∧ DV K H v d ∧ Q (.bl (ratD d)) H
def RQuo : List PyData → PyData → Prop := fun ds d => ∃ p q, ds = [frD p, frD q] ∧ Sm p ∧ Sm q ∧ q ≠ 0 ∧ d = frD (p / q)
end Lib
namespace Lib
open PySem L2 Fr Op
theorem iteT' {b : Bool} {A B : Prop} (hb : b = true) (h : A) : if b = true then A else B := by rw [if_pos hb]; exact h
theorem iteF' {b : Bool} {A B : Prop} (hb : b = false) (h : B) : if b = true then A else B := by rw [if_neg (by rw [hb]; exact Bool.false_ne_true)]; exact h
theorem sIx1 (n d : Nat) : HT.sIx n d (some 1) = min 1 n := HT.sIx_nat n d 1
theorem cut1 (xs : List V) : cutV xs (some 1) none = xs.drop 1 := by
  unfold cutV
  rw [sIx1, HT.sIx_none]
  cases xs with
  | nil => rfl
  | cons x r =>
    rw [show min 1 (x :: r).length = 1 by simp only [List.length_cons]; omega]
    exact List.take_of_length_le (by simp)
theorem decS (x y : Str) : decide (V.str x = V.str y) = decide (x = y) := by
  by_cases h : x = y
  · subst h; simp
  · have : ¬ V.str x = V.str y := fun z => h (V.str.inj z)
    rw [decide_eq_false h, decide_eq_false this]
def stopD : List PyData → Bool
  | [.tuple [.int a, .int b], .tuple [.int c, .int d]] => !decide (c * b < a * d)
  | _ => false
def pieceD : PyData → Bool
  | .tuple (.str w :: d1 :: ds) => (d1 :: ds).all ratD && (if w = "stop" then stopD (d1 :: ds) else (decide (w = "gap") || decide (w = "glass")) && ds.isEmpty)
  | _ => false
def SmP (d : PyData) : Prop := ∀ ds, d = .tuple ds → ds.length ≤ 1000 ∧ ∀ q, frD q ∈ ds → Sm q
def spPiece (K : PySem.W.Frag) : Sp := fun vs H Q _ => ∃ v d, vs = [v] ∧ DV K H v d ∧ SmP d ∧ ∀ H', Same H H' → Q (.bl (pieceD d)) H'
theorem frD_inj {p q : Rat} (h : frD p = frD q) : p = q := by
  unfold frD at h
  injection h with h
  injection h with h1 h2
  injection h1 with h1
  injection h2 with h2 _
  injection h2 with h2
  exact Rat.ext h1 (Int.ofNat.inj h2)
theorem stopD_fr (lo hi : Rat) : stopD [frD lo, frD hi] = !decide (hi < lo) := by
  show (!decide (hi.num * (lo.den : Int) < lo.num * (hi.den : Int))) = _
  rw [decide_eq_decide.mpr (Fr.lt_rat hi lo)]
theorem pieceD_pc : ∀ {p : Pc}, p.ok → pieceD (pcD p) = true
  | .gap d, _ => by
    show ([frD d].all ratD && (if ("gap" : Str) = "stop" then _ else _)) = true
    rw [List.all_cons, ratD_fr, if_neg (by decide)]
    rfl
  | .glass d, _ => by
    show ([frD d].all ratD && (if ("glass" : Str) = "stop" then _ else _)) = true
    rw [List.all_cons, ratD_fr, if_neg (by decide)]
    rfl
  | .stop lo hi, h => by
    show ([frD lo, frD hi].all ratD && (if ("stop" : Str) = "stop" then stopD [frD lo, frD hi] else _)) = true
    rw [List.all_cons, List.all_cons, ratD_fr, ratD_fr, if_pos rfl, stopD_fr, decide_eq_false h]
    rfl
theorem smP_pc {m : Nat} (hm : m ≤ 4000) : ∀ {p : Pc}, p.bd m → SmP (pcD p)
  | .gap d, b => fun ds e => by
    cases e
    refine ⟨by simp, fun q hq => ?_⟩
    simp only [List.mem_cons, List.not_mem_nil, or_false] at hq
    rcases hq with hq | hq
    · cases hq
    · rw [frD_inj hq]; exact Bd.sm b hm
  | .glass d, b => fun ds e => by
    cases e
    refine ⟨by simp, fun q hq => ?_⟩
    simp only [List.mem_cons, List.not_mem_nil, or_false] at hq
    rcases hq with hq | hq
    · cases hq
    · rw [frD_inj hq]; exact Bd.sm b hm
  | .stop lo hi, b => fun ds e => by
    cases e
    refine ⟨by simp, fun q hq => ?_⟩
    simp only [List.mem_cons, List.not_mem_nil, or_false] at hq
    rcases hq with hq | hq | hq
    · cases hq
    · rw [frD_inj hq]; exact Bd.sm b.1 hm
    · rw [frD_inj hq]; exact Bd.sm b.2 hm
inductive ObAt (K : PySem.W.Frag) (CG CL CS : Addr) (H : Hp) : V → Pc → Prop
  | gap {a dx : Addr} {x : V} {d : Rat} : H a = some (.ins CG dx [("length", x)]) → DV K H x (frD d) → ObAt K CG CL CS H (.ref a) (.gap d)
  | glass {a dx : Addr} {x : V} {d : Rat} : H a = some (.ins CL dx [("strength", x)]) → DV K H x (frD d) → ObAt K CG CL CS H (.ref a) (.glass d)
  | stop {a dx : Addr} {x y : V} {lo hi : Rat} : H a = some (.ins CS dx [("low", x), ("high", y)]) → DV K H x (frD lo) → DV K H y (frD hi) → ObAt K CG CL CS H (.ref a) (.stop lo hi)
theorem ObAt.keep {K : PySem.W.Frag} {CG CL CS : Addr} {H H' : Hp} (s : Same H H') : ∀ {v : V} {p : Pc}, ObAt K CG CL CS H v p → ObAt K CG CL CS H' v p
  | _, _, .gap h x => .gap (s _ _ h) (x.keep s)
  | _, _, .glass h x => .glass (s _ _ h) (x.keep s)
  | _, _, .stop h x y => .stop (s _ _ h) (x.keep s) (y.keep s)
def spInit1 (C : Addr) (f : Str) : Sp := fun vs H Q _ => ∃ a dx x, vs = [.ref a, x] ∧ H a = some (.ins C dx []) ∧ Q .non (upd H a (.ins C dx [(f, x)]))
def spInit2 (C : Addr) (f g : Str) : Sp := fun vs H Q _ => ∃ a dx x y, vs = [.ref a, x, y] ∧ H a = some (.ins C dx []) ∧ Q .non (upd H a (.ins C dx [(f, x), (g, y)]))
def spId : Sp := fun vs H Q _ => ∃ x y, vs = [x, y] ∧ Q y H
def spOb (K : PySem.W.Frag) (CG CL CS : Addr) (R : Pc → Ray → PyData) (C : Pc → Prop) : Sp := fun vs H Q _ => ∃ (o y : V) (p : Pc) (r : Ray) (n m : Nat), vs = [o, y] ∧ C p ∧ ObAt K CG CL CS H o p ∧ DV K H y (rayD r) ∧ RB n r ∧ p.bd m ∧ n + m ≤ 3900 ∧ ∀ v H', Same H H' → DV K H' v (R p r) → Q v H'
def isGap : Pc → Prop
  | .gap _ => True
  | _ => False
def isGlass : Pc → Prop
  | .glass _ => True
  | _ => False
def spPc (K : PySem.W.Frag) (CG CL CS : Addr) : Sp := fun vs H Q _ => ∃ v p, vs = [v] ∧ DV K H v (pcD p) ∧ ∀ a H', Same H H' → ObAt K CG CL CS H' (.ref a) p → Q (.ref a) H'
structure Good (m : Nat) (ps : List Pc) : Prop where
  len : ps.length ≤ 60
  ok : ∀ p ∈ ps, p.ok
  bd : ∀ p ∈ ps, p.bd m
def spLook (K : PySem.W.Frag) : Sp := fun vs H Q _ => ∃ v ps m, vs = [v] ∧ DV K H v (benchD ps) ∧ Good m ps ∧ m ≤ 4000 ∧ ∀ H', Same H H' → Q .non H'
theorem get_map_pc {ps : List Pc} {i : Nat} {d : PyData} (h : (ps.map pcD)[i]? = some d) : ∃ p, ps[i]? = some p ∧ d = pcD p := by
  rw [List.getElem?_map] at h
  cases e : ps[i]? with
  | none => rw [e] at h; cases h
  | some p => rw [e] at h; exact ⟨p, rfl, (Option.some.inj h).symm⟩
end Lib
namespace Lib
open PySem L2 Fr Op
theorem cutV_le0 (xs : List V) (hi : Nat) : (cutV xs none (some (hi : Int))).length ≤ hi := by
  unfold cutV
  rw [HT.sIx_nat, HT.sIx_none, List.length_take]
  omega
theorem cut_map (ns : List Int) (lo hi : Option Int) : ∃ ms : List Int, cutV (ns.map V.int) lo hi = ms.map V.int := by
  unfold cutV
  rw [← List.map_drop, ← List.map_take]
  exact ⟨_, rfl⟩
theorem last_get {vs : List V} {v : V} (h : vs.getLast? = some v) : atI vs (-1) = some v := by
  obtain ⟨ys, rfl⟩ := List.getLast?_eq_some_iff.mp h
  exact atI_last ys v
end Lib
namespace Lib
open PySem L2 Fr Op
theorem in_words (z : Str) : (if false = true then !inV (.str z) [.str "gap", .str "glass"] else inV (.str z) [.str "gap", .str "glass"]) = (decide (z = "gap") || decide (z = "glass")) := by
  rw [if_neg Bool.false_ne_true]
  unfold inV
  simp only [List.any_cons, List.any_nil, Bool.or_false]
  have h : ∀ w : Str, eqV (.str w) (.str z) = decide (z = w) := fun w => by
    show decide (w = z) = decide (z = w)
    exact decide_eq_decide.mpr ⟨Eq.symm, Eq.symm⟩
  rw [h, h]
end Lib
namespace Lib
open PySem L2 Fr Op
theorem atI0 {x : V} {xs : List V} : atI (x :: xs) 0 = some x := atI_nat (j := 0) rfl
end Lib
namespace Op
open Fr
end Op
namespace Lib
open PySem L2 Fr Op
theorem cut_take (xs : List V) (k : Nat) : cutV xs none (some (k : Int)) = xs.take k := by
  unfold cutV
  rw [HT.sIx_nat, HT.sIx_none, List.drop_zero, Nat.sub_zero, ← List.take_take]
  rw [List.take_length]
theorem cut_drop (xs : List V) (k : Nat) : cutV xs (some (k : Int)) none = xs.drop k := by
  unfold cutV
  rw [HT.sIx_nat, HT.sIx_none]
  by_cases h : k ≤ xs.length
  · rw [Nat.min_eq_left h]
    exact List.take_of_length_le (by rw [List.length_drop]; exact Nat.le_refl _)
  · rw [Nat.min_eq_right (by omega), List.drop_eq_nil_of_le (Nat.le_refl _), List.drop_eq_nil_of_le (by omega), List.take_nil]
end Lib
namespace Op
open Fr
def bend (ps : List Pc) (r : Ray) : Ray := ps.foldl (fun r p => p.bent r) r
end Op
namespace Lib
open PySem L2 Fr Op
end Lib
namespace Lib
open PySem L2 Fr Op
end Lib
namespace Op
open Fr
def e1 : Ray := (1, 0)
def e2 : Ray := (0, 1)
theorem det_bent (p : Pc) (r s : Ray) : (p.bent r).1 * (p.bent s).2 - (p.bent s).1 * (p.bent r).2 = r.1 * s.2 - s.1 * r.2 := by
  cases p with
  | gap d => show (r.1 + d * r.2) * s.2 - (s.1 + d * s.2) * r.2 = _; grind
  | glass d => show r.1 * (s.2 - d * s.1) - s.1 * (r.2 - d * r.1) = _; grind
  | stop _ _ => rfl
theorem bend_append (ps qs : List Pc) (r : Ray) : bend (ps ++ qs) r = bend qs (bend ps r) := List.foldl_append ..
end Op
namespace Lib
open PySem L2 Fr Op
end Lib
namespace Lib
open PySem L2 Fr Op
def spCell (K : PySem.W.Frag) : Sp := fun vs H Q _ => ∃ (a : Addr) (ns : List Int) (k : Int), vs = [.ref a, .int k] ∧ SqL K H a (ns.map V.int) ∧ 0 ≤ k ∧ ∀ z : Int, Q (.int z) H
theorem noL_fr (q : Rat) : noL (frD q) = true := rfl
end Lib
namespace Lib
open PySem L2 Fr Op
end Lib
namespace Lib
open PySem L2 Fr Op
def spRatG (K : PySem.W.Frag) : Sp := fun vs H Q _ => ∃ v q, vs = [v] ∧ DV K H v (frD q) ∧ Q (.bl true) H
def spPieceG (K : PySem.W.Frag) : Sp := fun vs H Q _ => ∃ (v : V) (p : Pc) (m : Nat), vs = [v] ∧ DV K H v (pcD p) ∧ p.ok ∧ p.bd m ∧ m ≤ 4000 ∧ ∀ H', Same H H' → Q (.bl true) H'
inductive PSh (m : Nat) : Str → List Rat → Prop where
  | stop {lo hi : Rat} : ¬ hi < lo → Bd m lo → Bd m hi → PSh m "stop" [lo, hi]
  | one {w : Str} {d : Rat} : decide (w = "stop") = false → (decide (w = "gap") || decide (w = "glass")) = true → PSh m w [d]
theorem pc_shape {m : Nat} : ∀ {p : Pc}, p.ok → p.bd m → ∃ w es, pcD p = .tuple (.str w :: es.map frD) ∧ PSh m w es
  | .gap d, _, _ => ⟨"gap", [d], rfl, .one (by decide) (by decide)⟩
  | .glass d, _, _ => ⟨"glass", [d], rfl, .one (by decide) (by decide)⟩
  | .stop lo hi, h, b => ⟨"stop", [lo, hi], rfl, .stop h b.1 b.2⟩
theorem PSh.len {m : Nat} {w : Str} {es : List Rat} : PSh m w es → 0 < es.length ∧ es.length ≤ 2
  | .stop .. => ⟨by simp, by simp⟩
  | .one .. => ⟨by simp, by simp⟩
theorem all_rep (n : Nat) : (List.replicate n true).all id = true := by simp
theorem rep_map (n : Nat) : (List.replicate n true).map V.bl = List.replicate n (V.bl true) := by simp
theorem get_fr {es : List Rat} {i : Nat} {d : PyData} (h : (es.map frD)[i]? = some d) : ∃ q, d = frD q := by
  rw [List.getElem?_map] at h
  cases e : es[i]? with
  | none => rw [e] at h; cases h
  | some q => rw [e] at h; cases h; exact ⟨q, rfl⟩
end Lib
namespace Lib
open PySem L2 Fr Op
def spMixG : Sp := fun vs H Q _ => ∃ c b m : Int, vs = [.int c, .int b, .int m] ∧ 0 ≤ b ∧ b < 2 ^ 32 ∧ 0 < m ∧ ∀ x : Int, 0 ≤ x → x < m → Q (.int x) H
def spRatC (K : PySem.W.Frag) : Sp := fun vs H Q _ => ∃ c b : Int, vs = [.int c, .int b] ∧ 0 ≤ b ∧ b < 2 ^ 32 ∧ ∀ v H' q, Same H H' → DV K H' v (frD q) → Bd 7 q → Q v H'
end Lib
namespace Lib
open PySem L2 Fr Op
theorem len_step {α : Type} {tr : List α} {i : Nat} {x : α} (h : tr.length ≤ i) : (tr ++ [x]).length ≤ i + 1 := by rw [List.length_append]; exact Nat.succ_le_succ h
theorem bi_le {n i m k : Nat} (h : n + k * (m + 1) + m ≤ 3900) (hi : i < k) : n + i * (m + 1) + m ≤ 3900 := by
  have : i * (m + 1) ≤ k * (m + 1) := Nat.mul_le_mul_right _ (Nat.le_of_lt hi)
  omega
theorem le_a {n m : Nat} (h : n + m ≤ 3900) : n ≤ 4000 := by omega
theorem le_b {n m : Nat} (h : n + m ≤ 3900) : m ≤ 4000 := by omega
theorem le_ba {n m : Nat} (h : n + m ≤ 3900) : m + n ≤ 4000 := by omega
theorem by1 {α : Type} {p : List α → Prop} (h : ∀ a, p [a]) : ∀ us : List α, us.length = 1 → p us
  | [_], _ => h _
theorem by2 {α : Type} {p : List α → Prop} (h : ∀ a b, p [a, b]) : ∀ us : List α, us.length = 2 → p us
  | [_, _], _ => h _ _
theorem by3 {α : Type} {p : List α → Prop} (h : ∀ a b c, p [a, b, c]) : ∀ us : List α, us.length = 3 → p us
  | [_, _, _], _ => h _ _ _
theorem by4 {α : Type} {p : List α → Prop} (h : ∀ a b c d, p [a, b, c, d]) : ∀ us : List α, us.length = 4 → p us
  | [_, _, _, _], _ => h _ _ _ _
end Lib
namespace Lib
open PySem L2 Fr Op
theorem div_nn {t b : Int} (ht : 0 ≤ t) (hb : 0 ≤ b) : 0 ≤ Rat.divInt t b := Rat.divInt_nonneg ht hb
theorem bend_take {ps : List Pc} {i : Nat} {pc : Pc} (h : ps[i]? = some pc) (r : Ray) : bend (ps.take (i + 1)) r = pc.bent (bend (ps.take i) r) := by
  rw [List.take_add_one, h, bend_append]
  rfl
end Lib
namespace Lib
open PySem L2 Fr Op
theorem pc_word {K : PySem.W.Frag} {H : Hp} {x : V} : ∀ {pc : Pc}, DV K H x (pcD pc) → ∃ pa w xs, x = .ref pa ∧ SqT K H pa (.str w :: xs)
  | .gap _, h => by obtain ⟨pa, z, z1, rfl, hpa, hz, hz1⟩ := DV.t2 h; obtain rfl := hz.str_of; exact ⟨_, _, _, rfl, hpa⟩
  | .glass _, h => by obtain ⟨pa, z, z1, rfl, hpa, hz, hz1⟩ := DV.t2 h; obtain rfl := hz.str_of; exact ⟨_, _, _, rfl, hpa⟩
  | .stop _ _, h => by obtain ⟨pa, z, z1, z2, rfl, hpa, hz, hz1, hz2⟩ := DV.t3 h; obtain rfl := hz.str_of; exact ⟨_, _, _, rfl, hpa⟩
theorem fr01 {K : PySem.W.Frag} {H : Hp} {p : Addr} : DV K (upd H p (.tup [.int 0, .int 1])) (.ref p) (frD 0) := .tup (SqT.of upd_same) (.cons (.int 0) (.cons (.int 1) .nil))
end Lib
namespace Lib
open PySem L2 Fr Op
end Lib
namespace Lib
open PySem L2 Fr Op
end Lib
namespace Lib
open PySem L2 Fr Op
end Lib
namespace Lib
open PySem L2 Fr Op
end Lib
namespace Lib
open PySem L2 Fr Op
end Lib
namespace Lib
open PySem L2 Fr Op
end Lib
namespace Lib
open PySem L2 Fr Op
structure Lim where
  k : Nat
  a : Rat
  b : Rat
  lo : Rat
  hi : Rat
def limD (l : Lim) : PyData := .tuple [.int (l.k : Int), frD l.a, frD l.b, frD l.lo, frD l.hi]
def lim1 (i : Nat) (p : Pc) (h s : Ray) : List Lim := match p with
  | .stop lo hi => [⟨i, h.1, s.1, lo, hi⟩]
  | _ => []
def limsF : Nat → List Pc → Ray → Ray → List Lim
  | _, [], _, _ => []
  | i, p :: ps, h, s => lim1 i p h s ++ limsF (i + 1) ps (p.bent h) (p.bent s)
def lims (ps : List Pc) : List Lim := limsF 0 ps e1 e2
theorem limsF_snoc (p : Pc) : ∀ (ps : List Pc) (i : Nat) (h s : Ray), limsF i (ps ++ [p]) h s = limsF i ps h s ++ lim1 (i + ps.length) p (bend ps h) (bend ps s)
  | [], i, h, s => by show lim1 i p h s ++ [] = [] ++ lim1 (i + 0) p h s; rw [List.append_nil]; rfl
  | q :: ps, i, h, s => by
    show lim1 i q h s ++ limsF (i + 1) (ps ++ [p]) (q.bent h) (q.bent s) = lim1 i q h s ++ limsF (i + 1) ps (q.bent h) (q.bent s) ++ _
    rw [limsF_snoc p ps, List.append_assoc, List.length_cons, show i + 1 + ps.length = i + (ps.length + 1) by omega]
    rfl
theorem lims_take {ps : List Pc} {i : Nat} {p : Pc} (h : ps[i]? = some p) : lims (ps.take (i + 1)) = lims (ps.take i) ++ lim1 i p (bend (ps.take i) e1) (bend (ps.take i) e2) := by
  have hi := (List.getElem?_eq_some_iff.mp h).1
  unfold lims
  rw [List.take_add_one, h]
  show limsF 0 (ps.take i ++ [p]) e1 e2 = _
  rw [limsF_snoc, List.length_take, Nat.min_eq_left (Nat.le_of_lt hi), Nat.zero_add]
theorem lims_len (ps : List Pc) : ∀ (i : Nat) (h s : Ray), (limsF i ps h s).length ≤ ps.length := by
  induction ps with
  | nil => intro i h s; exact Nat.le_refl _
  | cons p ps ih =>
    intro i h s
    show (lim1 i p h s ++ limsF (i + 1) ps _ _).length ≤ ps.length + 1
    rw [List.length_append]
    have := ih (i + 1) (p.bent h) (p.bent s)
    cases p with
    | gap d => show 0 + _ ≤ _; omega
    | glass d => show 0 + _ ≤ _; omega
    | stop lo hi => show 1 + _ ≤ _; omega
theorem flat_lim (l : Lim) : Flat 2 (limD l) := flat_tup fun d hd => by
  simp only [List.mem_cons, List.not_mem_nil, or_false] at hd
  rcases hd with rfl | rfl | rfl | rfl | rfl
  · exact (flat_int _).mono (by decide)
  · exact flat_fr _
  · exact flat_fr _
  · exact flat_fr _
  · exact flat_fr _
theorem noL_lim (l : Lim) : noL (limD l) = true := rfl
theorem rb_e1 : RB 2 e1 := ⟨1, 0, 1, by decide, by decide, by decide, by decide, by decide +kernel, by decide +kernel⟩
theorem rb_e2 : RB 2 e2 := ⟨0, 1, 1, by decide, by decide, by decide, by decide, by decide +kernel, by decide +kernel⟩
def spLims (K : PySem.W.Frag) : Sp := fun vs H Q _ => ∃ (v : V) (ps : List Pc) (m : Nat), vs = [v] ∧ DV K H v (benchD ps) ∧ Good m ps ∧ 2 + ps.length * (m + 1) + m ≤ 3900 ∧ ∀ l rs H', Same H H' → H l = none → H' l = some (.lst rs) → DVs K H' rs ((lims ps).map limD) → Q (.ref l) H'
theorem DV.upd5 {K : PySem.W.Frag} {H : Hp} {r : Addr} {x y z u t : V} {d1 d2 d3 d4 d5 : PyData} (hr : H r = none) (hx : DV K H x d1) (hy : DV K H y d2) (hz : DV K H z d3) (hu : DV K H u d4) (ht : DV K H t d5) : DV K (upd H r (.tup [x, y, z, u, t])) (.ref r) (.tuple [d1, d2, d3, d4, d5]) :=
  .tup (SqT.of upd_same) (.cons (hx.keep (same_new hr _)) (.cons (hy.keep (same_new hr _)) (.cons (hz.keep (same_new hr _)) (.cons (hu.keep (same_new hr _)) (.cons (ht.keep (same_new hr _)) .nil)))))
theorem DV.t5 {K : PySem.W.Frag} {H : Hp} {v : V} {l : Lim} (h : DV K H v (limD l)) : ∃ a x y z u, v = .ref a ∧ SqT K H a [.int (l.k : Int), x, y, z, u] ∧ DV K H x (frD l.a) ∧ DV K H y (frD l.b) ∧ DV K H z (frD l.lo) ∧ DV K H u (frD l.hi) := by
  obtain ⟨a, xs, rfl, ha, hxs⟩ := DV.tup_of h
  obtain ⟨x0, r0, rfl, h0, hr⟩ := hxs.cons_of
  obtain ⟨x1, x2, x3, x4, rfl, h1, h2, h3, h4⟩ := hr.four
  obtain rfl := h0.int_of
  exact ⟨a, x1, x2, x3, x4, rfl, ha, h1, h2, h3, h4⟩
theorem get_map_lim {ls : List Lim} {i : Nat} {d : PyData} (h : (ls.map limD)[i]? = some d) : ∃ l, ls[i]? = some l ∧ d = limD l := by
  rw [List.getElem?_map] at h
  cases e : ls[i]? with
  | none => rw [e] at h; cases h
  | some p => rw [e] at h; exact ⟨p, rfl, (Option.some.inj h).symm⟩
end Lib
namespace Lib
open PySem L2 Fr Op
def limsD (ls : List Lim) : PyData := .list (ls.map limD)
theorem flat_lims (ls : List Lim) : Flat 3 (limsD ls) := flat_lst (flat_map flat_lim ls)
end Lib
namespace Lib
open PySem L2 Fr Op
end Lib
namespace Lib
open PySem L2 Fr Op
end Lib
namespace Op
open Fr
end Op
namespace Lib
open PySem L2 Fr Op
end Lib
namespace Lib
open PySem L2 Fr Op
end Lib
namespace L2
open PySem PySem.Spec PyProof.Rows
end L2
namespace L2
open PySem PySem.Spec PyProof.Rows
end L2
namespace Lib
open PySem L2 Fr Op
end Lib
namespace Lib
open PySem L2 Fr Op
end Lib
namespace Lib
open PySem L2 Fr Op
end Lib
namespace Lib
open PySem L2 Fr Op
end Lib
namespace Lib
open PySem L2 Fr Op
end Lib
namespace Lib
open PySem L2 Fr Op
end Lib
namespace L2
open PySem PySem.Spec PyProof.Rows PySem.Builtin
end L2
namespace Lib
open PySem L2 Fr Op
end Lib
namespace Lib
open PySem L2 Fr Op
end Lib
namespace Lib
open PySem L2 Fr Op
end Lib
namespace Lib
open PySem L2 Fr Op
end Lib
namespace Lib
open PySem L2 Fr Op
end Lib
namespace L2
open PySem PySem.Spec PyProof.Rows PySem.Builtin
end L2
namespace L2
open PySem PySem.Spec PyProof.Rows PySem.Builtin
end L2
namespace L2
open PySem PySem.Spec PyProof.Rows PySem.Builtin
end L2
namespace L2
open PySem PySem.Spec PyProof.Rows PySem.Builtin
end L2
namespace L2
open PySem PySem.Spec PyProof.Rows PySem.Builtin
end L2
namespace L2
open PySem PySem.Spec PyProof.Rows
end L2
namespace Lib
open PySem L2 Fr Op
end Lib
namespace Op
open Fr
end Op
namespace Lib
open PySem L2 Fr Op
end Lib
namespace Op
open Fr
end Op
namespace Lib
open PySem L2 Fr Op
end Lib
namespace Lib
open PySem L2 Fr Op
theorem eqv_ray (r s : Ray) : PyData.eqv (rayD r) (rayD s) = decide (r = s) := by
  have e : PyData.eqv (rayD r) (rayD s) = (decide (r.1 = s.1) && decide (r.2 = s.2)) := by
    rw [← eqv_fr, ← eqv_fr]
    simp [rayD, frD, PyData.eqv, PyData.eqvAll]
  rw [e]
  by_cases h : r = s
  · subst h; simp
  · rw [decide_eq_false h]
    by_cases a : r.1 = s.1
    · by_cases b : r.2 = s.2
      · exact absurd (Prod.ext a b) h
      · simp [b]
    · simp [a]
end Lib
namespace L2
open PySem PySem.Spec PyProof.Rows PySem.Builtin
end L2
namespace Op
open Fr
end Op
namespace Lib
open PySem L2 Fr Op
theorem get_map_ray {ws : List Ray} {i : Nat} {d : PyData} (h : (ws.map rayD)[i]? = some d) : ∃ r, ws[i]? = some r ∧ d = rayD r := by
  rw [List.getElem?_map] at h
  cases e : ws[i]? with
  | none => rw [e] at h; cases h
  | some r => rw [e] at h; exact ⟨r, rfl, (Option.some.inj h).symm⟩
end Lib
namespace Op
open Fr Lib
end Op
namespace Lib
open PySem L2 Fr Op
end Lib
namespace Lib
open PySem L2 Fr Op
end Lib
namespace L2
open PySem PySem.Spec PyProof.Rows PySem.Builtin
end L2
namespace Lib
open PySem L2 Fr Op
end Lib
namespace L2
open PySem PySem.Spec PyProof.Rows
end L2
namespace Lib
open PySem L2 Fr Op
end Lib
namespace L2
open PySem PySem.Spec PyProof.Rows
section
variable {X : Cx}
theorem kitAny_no {K : PySem.W.Frag} {t : Value} : ∀ {cs : List Value}, (∀ c ∈ cs, PySem.W.kitOne K t c = some false) → PySem.W.kitAny K t cs = some false
  | [], _ => rfl
  | c :: cs, h => by
    unfold PySem.W.kitAny
    rw [h c (List.mem_cons_self ..)]
    exact kitAny_no fun c' hc => h c' (List.mem_cons_of_mem _ hc)
end
end L2
namespace Lib
open PySem L2 Fr Op
end Lib
namespace L2
open PySem PySem.Spec PyProof.Rows
abbrev TBd := XK → (Hp → Prop) → St → Hp → Prop
def PTB (X : Cx) (body : List Stmt) (t : TBd) : Prop := ∀ (pins : List (Addr × Obj)) (s : Shared) (σ : St) (H : Hp) (E : XK) (k : Hp → Prop), Inv X pins σ H s → t E k σ H →
  wpAny (model X.prog X.w) X.A (execs body X.env) (fun f s1 => f = .next ∧ ∃ H2, Inv X pins σ H2 s1 ∧ k H2) (fun e s' => ∃ H1 s1, Inv X pins σ H1 s1 ∧ CX1 X.prog X.w X.stack H1 s1 E e s') s
section
variable {X : Cx} {c : Bool} {k : Nat} {ps : List Str} {sp : Sp} {x xc n : Str} {p pos cpos epos np hp : Pos} {e : Expr} {es : List Expr} {t : TA} {Bc : Addr} {b₀ : Stmt} {suite : List Stmt} {ts : TS} {i : Nat}
theorem ptb_call (C : CalB X.prog X.w X.K X.mg X.base c k x ps sp) (hr : RoomB c k X.A) (ha : PA X.nox (e :: es) t) (hg : Gl X x := by rfl) (hdb : (x == ("__debug__" : Str)) = false := by decide)
    (he : starEach (e :: es) X.env = (false, eval e X.env) :: starEach es X.env := by rfl) (hpl : (backTo cpos (starEach es X.env)).any (·.1) = false := by rfl) (hsw : swapsWith (.Call (.Name x p) (e :: es) [] cpos) none epos.line X.env = pure false := by rfl) :
    PTB X [.Expr (.Call (.Name x p) (e :: es) [] cpos) epos] (fun E k σ H => t σ H fun vs H1 => sp (vs ++ []) H1 (fun _ H2 => k H2) E) := by
  obtain ⟨f, fd, F, hm, hk, hb⟩ := C.ex
  intro pins s σ H E k I h
  refine wpAny_execs_cons (wpAny_Expr_any (wpAny_Call_Name_kw (ld_glob I hg hm ?_ hdb)) I.quiet hsw)
  refine PySem.W.callWith_K (h₀ := X.base) I.ok.mod.kin hk (thn (PA.any ha cpos I h) fun us s1 ⟨vs, H1, I1, r, q⟩ => ⟨I1.kIn, ?_⟩) he hpl
  exact thn (run_fnB F hr hb I1 r q fun e s' hx => ⟨H1, s1, I1, hx⟩) fun v s2 ⟨v', H2, I2, r2, q2⟩ => wpAny_execs_nil ⟨rfl, H2, I2, q2⟩
theorem ptb_if {cd : Expr} {tc : TT} {a b : List Stmt} {ta tb : TBd} (hc : PT X.nox cd tc) (ha : PTB X a ta) (hb : PTB X b tb) : PTB X [.If cd a b pos] (fun E k σ H => tc σ H fun d H1 => if d = true then ta E k σ H1 else tb E k σ H1) := by
  intro pins s σ H E k I h
  refine wpAny_execs_cons (wpAny_If (wpAny_mono (hc pins s σ H _ (I.wish _) h) (fun d s1 hd => ?_) (fun _ _ z => z.elim)))
  obtain ⟨H1, I1, q⟩ := hd
  have I1 := I1.unwish
  cases d with
  | true =>
    rw [if_pos rfl] at q
    exact wpAny_mono (ha pins s1 σ H1 E k I1 q) (fun f s2 ⟨e, r⟩ => by subst e; exact wpAny_execs_nil ⟨rfl, r⟩) (fun _ _ z => z)
  | false =>
    rw [if_neg Bool.false_ne_true] at q
    exact wpAny_mono (hb pins s1 σ H1 E k I1 q) (fun f s2 ⟨e, r⟩ => by subst e; exact wpAny_execs_nil ⟨rfl, r⟩) (fun _ _ z => z)
end
end L2
namespace L2
open PySem PySem.Spec PyProof.Rows PySem.Builtin
open PySem.AutoSeq1 (wpAny_loadPart')
end L2
namespace L2
open PySem PySem.Spec PySem.Calls PyProof.Rows PySem.W Builtin Builtin.ObjectAttr
abbrev bmVE : List Value := [.type "ValueError", .type "Exception", .type "BaseException", .type "object"]
structure ExcI (K : PySem.W.Frag) (C CB fI : Addr) : Prop where
  ob : ∃ nm q N bs sn sub ab col dd k0 k1 k2 k3 k5, K.lookup C = some (excClassObj nm q C N bs (.ref CB :: bmVE) true sn sub ab col dd k0 k1 k2 k3 k5 "ValueError.__new__")
  cb : PySem.W.excIn K CB bmVE "ValueError.__new__" = true
  it : PySem.W.findIn K (.ref C) "__init__" = some (some (.ref fI))
  kp : PySem.W.keepIn K (.ref C) = true
  hm : PySem.W.mroIn K C (.type "object") = some true
  hd : PySem.W.hasDictIn K C = true
  fn : PySem.W.typeIn K (.ref fI) = some (.type "function")
  sa : PySem.W.findIn K (.ref C) "__setattr__" = some (some (.builtin "object.__setattr__"))
  na : PySem.W.findIn K (.ref C) "at" = some none
  rd : PySem.W.readsIn K CB (.type "type") = true
  fc : PySem.W.findCls K (.ref CB) (.type "type") "__init__" = some (.val (.builtin "ValueError.__init__"))
  sg : PySem.W.specialIn K (.ref CB) "__getattribute__" = some (some (.builtin "type.__getattribute__"))
theorem ExcI.obj {K : PySem.W.Frag} {C CB fI : Addr} {h : Heap} (O : ExcI K C CB fI) (X : K.In h) :
    ∃ nm q N bs sn sub ab col dd k0 k1 k2 k3 k5, h.get? C = some (excClassObj nm q C N bs (.ref CB :: bmVE) true sn sub ab col dd k0 k1 k2 k3 k5 "ValueError.__new__") ∧ OwnTail h bmVE (.ref CB :: bmVE) := by
  obtain ⟨nm, q, N, bs, sn, sub, ab, col, dd, k0, k1, k2, k3, k5, l⟩ := O.ob
  obtain ⟨bm, N', nm', qn', bs', hdct', sn', sub', ab', col', dd', a0, a1, a2, a3, a5, mN, hC, hN, hni, TL⟩ := exc_obj X O.cb
  exact ⟨nm, q, N, bs, sn, sub, ab, col, dd, k0, k1, k2, k3, k5, X _ _ l, .own hC hN hni .base⟩
abbrev tupO (vs : List Value) : Obj := { cls := .type "tuple", data := .seq vs.toArray }
abbrev excN (C t : Addr) : Obj := { cls := .ref C, data := .fields #[.ref t, .none, .none, .none, .bool false, .none] }
section
variable {prog : Program} {w : World} {A : Around} {E : Value → Shared → Prop} {h : Heap} {g : Array GenState} {d : Drawn} {t : Nat} {os : OsState} {K : PySem.W.Frag} {C CB fI : Addr}
theorem tcall_excI {rest : List Value} {Q : Fin → Shared → Prop} (X : K.In h) (O : ExcI K C CB fI)
    (hq : wpAny (model prog w) A (call (.ref fI) (.ref (h.objs.size + 1) :: rest)) (fun r s' => r = .none ∧ Q (.done (.ret (.ref (h.objs.size + 1)))) s') E ⟨(h.push (tupO rest)).push (excN C h.objs.size), g, d, t, os⟩) (hrest : rest.length ≤ sizeLine) :
    wpAny (model prog w) A (Builtin.«type.__call__» ⟨.ref C :: rest, []⟩) Q E ⟨h, g, d, t, os⟩ := by
  obtain ⟨nm, q, N, bs, sn, sub, ab, col, dd, k0, k1, k2, k3, k5, hC, T⟩ := O.obj X
  have kk : ∀ b o, h.get? b = some o → ((h.push (tupO rest)).push (excN C h.objs.size)).get? b = some o := fun b o e => Heap.get?_push_of_some _ (Heap.get?_push_of_some _ e)
  have X1 := X.keeps kk
  have hC1 := kk _ _ hC
  have hx : ((h.push (tupO rest)).push (excN C h.objs.size)).get? (h.objs.size + 1) = some (excN C h.objs.size) := by heap_get
  have hcC : (Value.ref C :: (.ref CB :: bmVE)).contains (.ref C) = true := by simp
  repeat (first | with_reducible refine wpAny_loadPart_at hC ?_ | with_reducible refine wpAny_madeBy_exc hC ?_ | wp_step)
  refine codeAny_call_builtin_code (Code.quiet_builtin _ F.excBase_ValueError.quiet) (wpAny_check_new_subT F.excBase_ValueError T hC (codeAny_exc_new_subT F.excBase_ValueError T hC ?_ hrest))
  show wpAny _ _ _ _ _ _; unfold isInstance
  repeat (first | with_reducible refine wpAny_loadPart_at hx ?_ | (with_reducible refine wpAny_isSubtype_exc hC1 ?_; rw [hcC]) | wp_step)
  show wpAny _ _ (typeLookup (.ref C) _) _ _ _; refine (looks_findIn X1 O.it).at (wpAny_holding (wpAny_bind ((bind_fn X1 _ O.fn).at ?_)))
  refine wpAny_bind (wpAny_mono hq (fun r s' ⟨e, z⟩ => ?_) fun _ _ x => x)
  subst e
  wp_walk
  exact z
theorem call_excI {rest : List Value} {Q : Value → Shared → Prop} (X : K.In h) (O : ExcI K C CB fI)
    (hq : wpAny (model prog w) (A.under (.builtin "type.__call__" ⟨.ref C :: rest, []⟩)) (call (.ref fI) (.ref (h.objs.size + 1) :: rest)) (fun r s' => r = .none ∧ Q (.ref (h.objs.size + 1)) s') E ⟨(h.push (tupO rest)).push (excN C h.objs.size), g, d, t, os⟩) (hrest : rest.length ≤ sizeLine) :
    wpAny (model prog w) A (call (.ref C) rest) Q E ⟨h, g, d, t, os⟩ := by
  obtain ⟨nm, q, N, bs, sn, sub, ab, col, dd, k0, k1, k2, k3, k5, hC, T⟩ := O.obj X
  have l1 := tc_lookup
  have l2 := tc_bind (.ref C)
  have l3 : (⟨h, g, d, t, os⟩ : Shared).TypeIs (.ref C) "type" := ⟨_, hC, rfl⟩
  refine wpAny_call (codeAny_of_tree ?_)
  show wpAny _ _ (callAny (.ref C) _) _ _ _
  repeat (any_goals (first | assumption | with_reducible refine wpAny_loadPart_at hC ?_ | wp_step))
  exact ⟨rfl, codeAny_call_builtin_at (Code.quiet_builtin _ (by decide +kernel)) entry_typeCall (wpAny_check_type_call_sub hC (tcall_excI X O hq hrest))⟩
theorem raise_obj {s : Shared} {env : Env} {x : Sem Value} {Q : Flow → Shared → Prop} (hh : A.handled = none)
    (hx : wpAny (model prog w) A x (fun v s₁ => ∃ e t od sl, v = .ref e ∧ K.In s₁.heap ∧ ExcI K C CB fI ∧ s₁.heap.get? e = some ⟨.ref C, od, .fields #[.ref t, .none, .none, .none, .bool false, .none], sl⟩ ∧ E (.ref e) s₁) E s) : wpAny (model prog w) A (raiseStmt env (some x) none) Q E s := by
  unfold raiseStmt
  refine wpAny_bind (wpAny_mono hx (fun v s₁ ⟨e, t0, od, sl, ev, X, O, he, z⟩ => ?_) fun _ _ x => x)
  subst ev
  obtain ⟨nm, q, N, bs, sn, sub, ab, col, dd, k0, k1, k2, k3, k5, hC, T⟩ := O.obj X
  have hcB : (Value.ref C :: (.ref CB :: bmVE)).contains (.type "BaseException") = true := by rw [List.contains_cons, T.hasType (X := "BaseException") (b := true) (by decide +kernel), Bool.or_true]
  obtain ⟨hp, g, d, tk, os⟩ := s₁
  repeat (first | with_reducible refine wpAny_loadPart_at he ?_ | with_reducible refine wpAny_loadPart_at hC ?_ | (with_reducible refine wpAny_isSubtype_exc hC ?_; rw [hcB]) | wp_step)
  exact wpAny_raiseNew_none hh z
abbrev excB (C t : Addr) (od : Option Addr) (sl : Array (Option Value)) : Obj := ⟨.ref C, od, .fields #[.ref t, .none, .none, .none, .bool false, .none], sl⟩
theorem binit_run {e t0 : Addr} {u : Value} {od : Option Addr} {sl : Array (Option Value)} {Q : Value → Shared → Prop} (X : K.In h) (O : ExcI K C CB fI) (he : h.get? e = some (excB C t0 od sl))
    (hq : ∀ h' t1, h'.get? e = some (excB C t1 od sl) → (∀ b o, b ≠ e → h.get? b = some o → h'.get? b = some o) → Q .none ⟨h', g, d, t, os⟩) :
    wpAny (model prog w) A (call (.builtin "ValueError.__init__") [.ref e, u]) Q E ⟨h, g, d, t, os⟩ := by
  obtain ⟨nm, q, N, bs, sn, sub, ab, col, dd, k0, k1, k2, k3, k5, hC, T⟩ := O.obj X
  refine wpAny_call (codeAny_call_builtin F.excBase_ValueError.init.plain F.excBase_ValueError.initEntry (wpAny_check_init_subT F.excBase_ValueError T hC he rfl ?_))
  have he1 : (h.push (tupO [u])).get? e = some (excB C t0 od sl) := Heap.get?_push_of_some _ he
  wp_walk
  refine hq _ h.objs.size ?_ fun b o n z => ?_
  · rw [Heap.get?_update_self _ he1 rfl]; rfl
  · rw [Heap.get?_update_other _ _ (Ne.symm n)]; exact Heap.get?_push_of_some _ z
theorem xset_run {e t0 : Addr} {u : Value} {sl : Array (Option Value)} {Q : Unit → Shared → Prop} (X : K.In h) (O : ExcI K C CB fI) (he : h.get? e = some (excB C t0 none sl))
    (hq : ∀ h', h'.Ns1 h.objs.size (fun y => if y = "at" then some u else none) → h'.get? e = some (excB C t0 (some h.objs.size) sl) → (∀ b o, b ≠ e → h.get? b = some o → h'.get? b = some o) → Q () ⟨h', g, d, t + 2, os⟩) :
    wpAny (model prog w) A (setAttr (.ref e) "at" u) Q E ⟨h, g, d, t, os⟩ := by
  obtain ⟨nm, q, N, bs, sn, sub, ab, col, dd, k0, k1, k2, k3, k5, hC, T⟩ := O.obj X
  have J : InstAt h e (excB C t0 none sl) C none := ⟨he, rfl, rfl, trivial⟩
  have SF := PySem.F.store_object
  have LT := J.type (M := model prog w)
  have sb : Looks (model prog w) h (isInstance (.ref e) (.type "object")) true := LT.andThen (looks_mroIn X O.hm)
  have LF := looks_findIn (M := model prog w) X O.na
  refine set_plain (s := ⟨h, g, d, t, os⟩) X J O.sa (codeAny_call_builtin SF.slot.plain SF.entry (@check_slot (model prog w) _ _ ⟨h, g, d, t + 1, os⟩ "object.__setattr__" "object" "__setattr__" (.ref e) [.str "at" t, u] [] _ SF.kind SF.split sb (SF.args (.ref e) (.str "at" t) u) ?_))
  rw [osa_eq, refuse_eq]; refine wpAny_bind (wpAny_bind (LT.at (wpAny_bind (wpAny_mroOf_exc hC ?_))))
  rw [refuseLoop_ref, refuseLoop_ref, F.store_ValueError.passes]
  refine wpAny_pure (wpAny_bind (LT.at (wpAny_bind (LF.at (wpAny_bind (wpAny_pure ?_))))))
  have hes : e ≠ h.objs.size := Nat.ne_of_lt (Heap.lt_size he)
  have he1 : (h.push { cls := .type "dict", data := .dict #[] }).get? e = some (excB C t0 none sl) := Heap.get?_push_of_some _ he
  unfold storeInOwnDict ownDictForStores instanceDict
  iterate 14 (first | with_reducible refine wpAny_loadPart_at he ?_ | with_reducible refine wpAny_loadPart_at hC ?_ | wp_step)
  dsimp only
  refine wpAny_bind (wpAny_alloc' (wpAny_bind (wpAny_update' he1 (wpAny_pure ?_))))
  have g1 : ((h.push { cls := .type "dict", data := .dict #[] }).update e fun o => { cls := o.cls, dict := some h.objs.size, data := o.data, slots := o.slots }).get? h.objs.size = some { cls := .type "dict", data := .dict #[] } :=
    (Heap.get?_update_ne _ _ _ _ hes.symm).trans (Heap.get?_push_at rfl rfl)
  have g2 : ((h.push { cls := .type "dict", data := .dict #[] }).update e fun o => { cls := o.cls, dict := some h.objs.size, data := o.data, slots := o.slots }).get? e = some (excB C t0 (some h.objs.size) sl) := Heap.get?_update_self _ he1 rfl
  have g3 : ∀ b o, b ≠ e → h.get? b = some o → ((h.push { cls := .type "dict", data := .dict #[] }).update e fun o => { cls := o.cls, dict := some h.objs.size, data := o.data, slots := o.slots }).get? b = some o := fun b o n z => (Heap.get?_update_ne _ _ _ _ n).trans (Heap.get?_push_of_some _ z)
  generalize ((h.push { cls := .type "dict", data := .dict #[] }).update e fun o => { cls := o.cls, dict := some h.objs.size, data := o.data, slots := o.slots }) = hm at g1 g2 g3 ⊢
  have n1 : hm.Ns h.objs.size (fun _ => none) := ⟨_, #[], _, g1, rfl, (fun x hx => absurd hx (by simp)), fun _ => rfl⟩
  show wpAny _ _ (storeInDict h.objs.size (.str "at" t) "at" u) _ _ _
  unfold storeInDict newKeyGuard; refine wpAny_bind (wpAny_pure (wpAny_bind (wpAny_nsSet1 (Heap.Ns1.of_empty n1) fun h' n2 sb2 => ?_)))
  obtain ⟨oD, eD, pD, z1, z2, z3⟩ := n2.count (Within.cons "at" u Within.nil)
  refine wpAny_bind (wpAny_lookBehind z1 (by rw [z2]; exact pastItsLine_dict (Nat.le_trans z3 (by decide))) (wpAny_pure ?_))
  exact hq h' n2 ((sb2.2 _ hes).trans g2) fun b o n z => (sb2.2 b (Nat.ne_of_lt (Heap.lt_size z))).trans (g3 b o n z)
end
end L2
namespace L2
open PySem PySem.Spec PySem.Calls PyProof.Rows PySem.W Builtin Builtin.ObjectAttr
def XN (e C : Addr) (d : Option Addr) (h : Heap) : Prop := ∃ t sl, h.get? e = some (excB C t d sl)
abbrev xN (e C : Addr) (d : Option Addr) : HO := .ext (XN e C d)
theorem XN.stay {e C : Addr} {d : Option Addr} {h1 h2 : Heap} (x : XN e C d h1) (k : ∀ o, h1.get? e = some o → h2.get? e = some o) : XN e C d h2 := let ⟨t, sl, z⟩ := x; ⟨t, sl, k _ z⟩
theorem XN.ok {P : Program} {w : World} {H : Hp} {h : Heap} {e C : Addr} {d : Option Addr} (x : XN e C d h) : ObjOk P w H h e (xN e C d) :=
  let ⟨_, _, z⟩ := x; ⟨x, ⟨_, z⟩, fun _ _ y k => y.stay k⟩
def XC (e C : Addr) (d : Option Addr) (h : Heap) : Prop := ∃ o vs, h.get? e = some o ∧ o.cls = .ref C ∧ o.dict = d ∧ o.data = .fields vs
abbrev xC (e C : Addr) (d : Option Addr) : HO := .ext (XC e C d)
theorem XC.stay {e C : Addr} {d : Option Addr} {h1 h2 : Heap} (x : XC e C d h1) (k : ∀ o, h1.get? e = some o → h2.get? e = some o) : XC e C d h2 := let ⟨o, vs, z, r⟩ := x; ⟨o, vs, k _ z, r⟩
theorem XC.at {e C : Addr} {d : Option Addr} {h : Heap} (x : XC e C d h) : ExcAt e C h := let ⟨o, _, z, r, _⟩ := x; ⟨o, z, r⟩
section
variable {X : Cx} {C CB fI : Addr} {nb : Str} {e1 o value : Expr} {es : List Expr} {t : TA} {ta tv : TE} {np apos cpos epos pos pos' : Pos}
def sBinit (C : Addr) (t : TA) : TS := fun D σ H => t σ H fun vs H1 => ∃ e v d, vs = [.ref e, v] ∧ H1 e = some (xN e C d) ∧ D.nx σ H1
theorem ps_binit {pl : Sem Bool} (O : ExcI X.K C CB fI) (hm : X.mg nb = some (.ref CB)) (ha : PA X (e1 :: es) t) (hg : Gl X nb := by rfl) (hdb : (nb == ("__debug__" : Str)) = false := by decide)
    (he : starEach (e1 :: es) X.env = (false, eval e1 X.env) :: starEach es X.env := by rfl) (hpl : (backTo cpos (starEach es X.env)).any (·.1) = false := by rfl)
    (hsw : swapsWith (.Call (.Attribute (.Name nb np) "__init__" apos) (e1 :: es) [] cpos) none epos.line X.env = pure false := by rfl)
    (ht : eval (.Call (.Attribute (.Name nb np) "__init__" apos) (e1 :: es) [] cpos) X.env = (do
      let ov ← eval (.Name nb np) X.env
      standAt apos.atName
      let (f, first) ← holding [ov] (getMethod ov "__init__" pl)
      callWith cpos f first (backTo cpos (starEach (e1 :: es) X.env)) (backToKw cpos (keywordEach [] X.env))) := by rfl) :
    PS X (.Expr (.Call (.Attribute (.Name nb np) "__init__" apos) (e1 :: es) [] cpos) epos) (sBinit C t) := by
  intro pins s σ H D I h
  refine wpAny_Expr_any (PySem.W.methodCall_KW (pl := pl) (ld_glob I hg hm ?_ hdb) ht) I.quiet hsw
  refine method_cls I.kIn O.sg (cls_value I.kIn O.rd O.fc rfl ?_)
  have hA := ha cpos pins _ σ H _ (I.tok (s.toks + 1)) h
  rw [he] at hA ⊢
  refine Calls.callWith_builtin (by show (false || (backTo cpos (starEach es X.env)).any (·.1)) = false; rw [hpl] <;> rfl) (Calls.evalArgs_plain ?_)
  refine thn hA fun us s2 ⟨vs, H2, I2, r, e, v, d, ev, hx, q⟩ => ?_
  subst ev
  obtain ⟨u0, u, rfl, r0, ru⟩ := vals2 r
  cases (show u0 = Value.ref e from r0)
  obtain ⟨⟨t0, sl, ho⟩, _, _⟩ := (show ObjOk X.prog X.w H2 s2.heap e (xN e C d) from I2.hok e _ hx)
  obtain ⟨hh, g, dr, tk, os⟩ := s2
  refine binit_run I2.kIn O ho fun h' t1 he' k => ?_
  have J := I2.write (x := e) (e := e) (o := xN e C d) (t' := tk) (by rw [hx]; exact True.intro) (.inl rfl) (fun b o n => k b o n) ⟨_, he'⟩ (XN.ok ⟨t1, sl, he'⟩)
  have e2 : upd H2 e (xN e C d) = H2 := by
    funext b
    by_cases z : b = e
    · subst z; rw [upd_same, hx]
    · rw [upd_ne z]
  rw [e2] at J
  exact ⟨σ, H2, J, q⟩
theorem xset_ok {pins : List (Addr × Obj)} {σ : St} {H : Hp} {s : Shared} {A : Around} {E : Value → Shared → Prop} {y : V} {u : Value} {Q : Unit → Shared → Prop} {e : Addr} (I : Inv X pins σ H s) (O : ExcI X.K C CB fI) (hx : H e = some (xN e C none)) (ry : RelV y u)
    (h : ∀ dx s', H dx = none → dx ≠ e → Inv X pins σ (upd (upd H dx (.xd [("at", y)])) e (xN e C (some dx))) s' → Q () s') : wpAny (model X.prog X.w) A (setAttr (.ref e) "at" u) Q E s := by
  obtain ⟨⟨t0, sl, ho⟩, _, _⟩ := (show ObjOk X.prog X.w H s.heap e (xN e C none) from I.hok e _ hx)
  obtain ⟨hh, g, dr, tk, os⟩ := s
  refine xset_run I.kIn O ho fun h' n1 he' k => ?_
  have ne : e ≠ hh.objs.size := Nat.ne_of_lt (Heap.lt_size ho)
  obtain ⟨oD, es, ep, hD, dD, rD⟩ := id n1
  have fD : oD.isFreed = false := (Heap.get?_some_iff.mp hD).2
  have hn : H hh.objs.size = none := I.hok.fresh (Nat.le_refl _)
  have r1 : ∀ f, RelO (List.lookup f [(("at" : Str), y)]) (if f = "at" then some u else none) := fun f => by
    by_cases z : f = "at"
    · subst z; rw [if_pos rfl]; exact ry
    · rw [if_neg z, List.lookup_cons, show (f == ("at" : Str)) = false from beq_false_of_ne z]; exact True.intro
  have J1 := I.laid (a := hh.objs.size) (o := .xd [("at", y)]) (h' := hh.push oD) (t' := tk + 2) (fun b o z => Heap.get?_push_of_some _ z) (Nat.le_refl _) ⟨_, ⟨oD, es, ep, Heap.get?_push_size hh fD, dD, rD⟩, r1⟩
  have J2 := J1.write (x := e) (e := e) (o := xN e C (some hh.objs.size)) (h' := h') (t' := tk + 2) (by rw [upd_ne ne, hx]; exact True.intro) (.inl rfl) (fun b o n z => ?_) ⟨_, he'⟩ (XN.ok ⟨t0, sl, he'⟩)
  · exact h hh.objs.size _ hn (Ne.symm ne) J2
  · rcases Heap.get?_push_cases z with ⟨zb, zo⟩ | z
    · rw [zb, zo]; exact hD
    · exact k b o n z
def sSetAt (C : Addr) (ta tv : TE) : TS := fun D σ H => tv σ H fun y H1 => ta σ H1 fun x H2 => ∃ e, x = .ref e ∧ H2 e = some (xN e C none) ∧ ∀ dx, H2 dx = none → dx ≠ e → D.nx σ (upd (upd H2 dx (.xd [("at", y)])) e (xN e C (some dx)))
theorem ps_setat (O : ExcI X.K C CB fI) (ha : PE X o ta) (hv : PE X value tv) (hs : swapsWith value (some (.Attribute o "at" pos')) pos.line X.env = pure false := by rfl) : PS X (.Assign [.Attribute o "at" pos'] value pos) (sSetAt C ta tv) := by
  intro pins s σ H D I h
  refine plainObj_wpAny_Assign_Attribute (thn (hv pins s σ H _ I h) fun u s1 ⟨y, H1, I1, ry, q⟩ => thn (ha pins s1 σ H1 _ I1 q) fun ov s2 ⟨x, H2, I2, rx, e, ex, hx, q2⟩ => ?_) hs
  subst ex
  obtain rfl : ov = Value.ref e := rx
  exact xset_ok I2 O hx ry fun dx s3 n1 n2 J => ⟨σ, _, J, q2 dx n1 n2⟩
end
def spXI (C : Addr) : Sp := fun vs H Q _ => ∃ e v, vs = [.ref e, v] ∧ H e = some (xN e C none) ∧ ∀ dx, H dx = none → dx ≠ e → Q .non (upd (upd H dx (.xd [("at", v)])) e (xN e C (some dx)))
structure XMk (P : Program) (w : World) (K : PySem.W.Frag) (mg : Str → Option Value) (base : Heap) (k : Nat) (x : Str) (C : Addr) : Prop where
  ex : ∃ (CB fI : Addr) (fd : FuncData), FnB P w K mg base true k fI fd ["self", "at"] (spXI C) ∧ ExcI K C CB fI ∧ Binds K fd ["self", "at"] []
  mg : mg x = some (.ref C)
structure XFn (K : PySem.W.Frag) (mg : Str → Option Value) (x : Str) (C CB : Addr) (qual : Str) (st : Stmt) : Prop where
  ex : ∃ (f : Addr) (fd : FuncData), Fun K "__init__" qual st f fd ∧ ExcI K C CB f
  mg : mg x = some (.ref C)
theorem XFn.xmk {P : Program} {w : World} {K : PySem.W.Frag} {mg : Str → Option Value} {base : Heap} {x : Str} {C CB : Addr} {qual : Str} {st : Stmt} {N : List Str} {k : Nat} (T : XFn K mg x C CB qual st) (S : FnScope N ["self", "at"] (defScope st))
    (hb : ∀ (kV doc pm : Value) (an : Option Addr) (cdv ct : Value) (us : List Value), us.length = (["self", "at"] : List Str).length → bindArgs (PySem.W.fnOf "__init__" qual (defArgs st) (defBody st) (defScope st) .none kV doc pm an cdv ct) ⟨us, []⟩ = pure ((["self", "at"] : List Str).zip us))
    (hbody : ∀ (fI : Addr), ExcI K C CB fI → ∀ (f : Addr) (cdv : Value) (A : Around) (outer : List Env) (s : Shared) (H : Hp) (vs : List V) (Q : VK) (E : XK), RoomB true k (A.deeper (envOfC qual (defScope st) s.heap.objs.size f cdv)) → spXI C vs H Q E →
      ∃ t, PSs (cxB true P w K mg base N qual (defScope st) f cdv A outer s H E).nox (defBody st) t ∧ t { nx := fun _ H' => Q .non H', rt := Q } (start N vs) H) : XMk P w K mg base (k + 1) x C := by
  obtain ⟨f, fd, F, hm⟩ := T.ex
  obtain ⟨oc, od, kV, doc, pm, an, cdv, ct, osl, rfl, l, cd⟩ := id F.ex
  refine ⟨⟨CB, f, _, fnB_of l cd S (fun vs H Q E h => by obtain ⟨_, _, rfl, _⟩ := h; rfl) fun A outer s H vs Q E hr h => ?_, hm, F.binds hb⟩, T.mg⟩
  obtain ⟨t, h1, h2⟩ := hbody f hm f cdv A outer s H vs Q E hr h
  exact ⟨t, h1.nox, h2⟩
def delH (H : Hp) (e : Addr) : Hp := fun b => if b = e then none else H b
theorem delH_ne {H : Hp} {e b : Addr} (n : b ≠ e) : delH H e b = H b := if_neg n
theorem delH_same {H : Hp} {e : Addr} : delH H e e = none := if_pos rfl
section
variable {X : Cx} {C : Addr} {x : Str} {e₀ : Expr} {t : TA} {np cpos pos : Pos} {k : Nat}
theorem clo_del {E : XK} (Bd : BodyCx X E) {pins : List (Addr × Obj)} {σ : St} {H : Hp} {s : Shared} {e : Addr} {φ : Heap → Prop} (I : Inv X pins σ H s) (hx : H e = some (.ext φ)) (ne0 : X.s₀.heap.get? e = none) (nL : e ∉ frs X.stack) {h2 : Heap} (up : s.heap.UpToSlots h2) (h'' : Heap)
    (st : (PySem.W.hideAll s.heap (e :: frs X.stack)).StaysIn h'') (up2 : h2.UpToSlots h'') : Un (frs X.outer) [] X.H₀ (delH H e) X.s₀.heap h'' ∧ HOk X.prog X.w (delH H e) h'' := by
  have inB : ∀ b o, s.heap.get? b = some o → b ≠ e → b ∉ frs X.stack → h''.get? b = some o := fun b o q n m => st b o (PySem.W.hideAll_get _ q (by simp [n, m]))
  have sl : ∀ b o, s.heap.get? b = some o → b ∈ frs X.stack → ∃ sl, h''.get? b = some { o with slots := sl } := fun b o q m => by
    obtain ⟨_, o', ho', hnf⟩ := I.stack.mem m
    rw [q] at ho'; cases ho'
    exact (up.trans up2) b o q hnf
  have nx : ∀ b : Addr, b ∉ X.ex := fun b z => by rw [Bd.ex] at z; cases z
  have neL : ∀ b o, X.s₀.heap.get? b = some o → b ≠ X.env.locals := fun b o q => Nat.ne_of_lt (Nat.lt_of_lt_of_le (Heap.lt_size q) I.ok.above)
  have nee : ∀ b o, X.s₀.heap.get? b = some o → b ≠ e := fun b o q z => by rw [z, ne0] at q; cases q
  have any : ∀ b o, s.heap.get? b = some o → b ≠ e → ∃ o', h''.get? b = some o' := fun b o q n => by
    by_cases m : b ∈ frs X.stack
    · obtain ⟨z, y⟩ := sl b o q m
      exact ⟨_, y⟩
    · exact ⟨_, inB b o q n m⟩
  have nt : ∀ b o', H b = some o' → (∀ ψ, o' ≠ .ext ψ) → b ≠ e := fun b o' q n z => by rw [z, hx] at q; exact n φ (Option.some.inj q).symm
  refine ⟨⟨fun b o q n hb _ => ?_, fun b o q n hb _ => ?_, fun b o q n _ => ?_, fun b o q _ => ?_, fun b xs q => ?_, fun b o y q => ?_, fun b ps q => ?_⟩, fun a o q => ?_⟩
  · exact inB b o (I.base.keep b o q n hb (nx b)) (nee b o q) fun m => (mem_stack Bd).mp m |>.elim (neL b o q) hb
  · obtain ⟨z, y⟩ := I.base.slot b o q n hb (nx b)
    exact sl b _ y ((mem_stack Bd).mpr (.inr hb)) |>.imp fun _ h => h
  · rw [delH_ne (nee b o q)]; exact I.base.free b o q n (nx b)
  · obtain ⟨o', y⟩ := I.base.there b o q (nx b)
    exact any b o' y (nee b o q)
  · have y := I.base.tups b xs q
    rw [delH_ne (nt b _ y (fun _ h => nomatch h))]; exact y
  · have y := I.base.frzs b o _ q
    rw [delH_ne (nt b _ y (fun _ h => nomatch h))]; exact y
  · obtain ⟨m, y⟩ := I.base.tbls b ps q
    exact ⟨m, by rw [delH_ne (nt b _ y (fun _ h => nomatch h))]; exact y⟩
  · have hae : a ≠ e := fun z => by rw [z, delH_same] at q; cases q
    rw [delH_ne hae] at q
    refine (I.hok a o q).stay (fun b u hc y => inB b u y ?_ fun m => ?_) (fun b y => by rw [delH_ne (nt b _ y (fun _ h => nomatch h))]; exact y) fun b xs y => by rw [delH_ne (nt b _ y (fun _ h => nomatch h))]; exact y
    · rcases hc with z | z
      · rw [z]; exact hae
      · exact nt b _ z (fun _ h => nomatch h)
    · have z := I.stkFree b m
      rcases hc with rfl | hc
      · rw [z] at q; cases q
      · rw [z] at hc; cases hc
def tRaiseI (E : XK) (C : Addr) (t : TA) : TS := fun _ σ H => t σ H fun vs H1 => ∃ v, vs = [v] ∧ ∀ dx, H1 dx = none → E (.ref C) (some dx) (upd H1 dx (.xd [("at", v)]))
theorem ps_raiseI {E : XK} (Bd : BodyCx X E) (hc : X.calm = true) (M : XMk X.prog X.w X.K X.mg X.base k x C) (hr : RoomB true (k + 1) X.A) (ha : PA X [e₀] t) (hg : Gl X x := by rfl) (hdb : (x == ("__debug__" : Str)) = false := by decide)
    (he : starEach [e₀] X.env = [(false, eval e₀ X.env)] := by rfl) :
    PS X (.Raise (some (.Call (.Name x np) [e₀] [] cpos)) none pos) (tRaiseI E C t) := by
  obtain ⟨CB, fI, fd, Fi, O, hb⟩ := M.ex
  intro pins s σ H D I h
  rw [arm_exec_Raise]
  have key : wpAny (model X.prog X.w) X.A (eval (.Call (.Name x np) [e₀] [] cpos) X.env) (fun v s₁ => ∃ e t od sl, v = .ref e ∧ X.K.In s₁.heap ∧ ExcI X.K C CB fI ∧ s₁.heap.get? e = some ⟨.ref C, od, .fields #[.ref t, .none, .none, .none, .bool false, .none], sl⟩ ∧ X.xe (.ref e) s₁) X.xe s := by
    refine wpAny_Call_Name_kw (ld_glob I hg M.mg ?_ hdb)
    refine PySem.W.callWith_K (h₀ := X.base) I.ok.mod.kin O.kp (thn (ha cpos pins s σ H _ I h) fun us s1 ⟨vs, H1, I1, r, v, ev, q⟩ => ⟨I1.kIn, ?_⟩) he rfl
    subst ev
    obtain ⟨u, rfl, ru⟩ := vals1 r
    have new0' := new0 I1 (fun b z => by rw [Bd.ex] at z; cases z) (a := s1.heap.objs.size + 1) (Heap.get?_none_of_le (Nat.le_succ _))
    obtain ⟨hh, g, dr, tk, os⟩ := s1
    refine call_excI I1.kIn O ?_ (by show 1 ≤ sizeLine; decide)
    have hx0 : ((hh.push (tupO [u])).push (excN C hh.objs.size)).get? (hh.objs.size + 1) = some (excB C hh.objs.size none #[]) := by heap_get
    have J0 := I1.kept (h' := hh.push (tupO [u])) (t' := tk) (fun b o z => Heap.get?_push_of_some _ z)
    have J : Inv X pins σ (upd H1 (hh.objs.size + 1) (xN (hh.objs.size + 1) C none)) ⟨(hh.push (tupO [u])).push (excN C hh.objs.size), g, dr, tk, os⟩ :=
      J0.laid (a := hh.objs.size + 1) (o := xN (hh.objs.size + 1) C none) (t' := tk) (fun b o z => Heap.get?_push_of_some _ z) (Nat.le_of_eq (Heap.size_push _ _)) (XN.ok ⟨_, _, hx0⟩)
    have he1 : H1 (hh.objs.size + 1) = none := I1.hok.fresh (Nat.le_succ _)
    have r2 : Vals [V.ref (hh.objs.size + 1), v] [Value.ref (hh.objs.size + 1), u] := .cons rfl (.cons ru .nil)
    have hl : ([Value.ref (hh.objs.size + 1), u] ++ ([] : List Value)).length = ["self", "at"].length := rfl
    refine wpAny_call (codeAny_mono (Fi.run _ X.stack _ _ ⟨[.ref (hh.objs.size + 1), u], []⟩ [.ref (hh.objs.size + 1), u] [.ref (hh.objs.size + 1), v]
      (fun v' H2 => v' = .non ∧ ∃ dx, H1 dx = none ∧ dx ≠ hh.objs.size + 1 ∧ H2 = upd (upd (upd H1 (hh.objs.size + 1) (xN (hh.objs.size + 1) C none)) dx (.xd [("at", v)])) (hh.objs.size + 1) (xN (hh.objs.size + 1) C (some dx))) E0 (hr.room.make C [u] []).b (J.env0.make C [u] []) (hb _ [.ref (hh.objs.size + 1), u] J.kIn hl) r2
      ⟨_, _, rfl, upd_same, fun dx n1 n2 => ⟨rfl, dx, by rw [upd_ne n2] at n1; exact n1, n2, rfl⟩⟩) fun r s' hq' => ?_)
    cases r with
    | error e =>
      obtain ⟨_, _, _, _, _, _, _, _, _, _, _, _, z⟩ := hq'
      exact z.elim
    | ok fl =>
      cases fl with
      | next => exact False.elim hq'
      | brk => exact False.elim hq'
      | cont => exact False.elim hq'
      | ret u' =>
        obtain ⟨v', H2, I2, rv, ev, dx, n1, n2, eH⟩ := J.after hq'
        subst ev
        refine ⟨rv, ?_⟩
        have hx2 : H2 (hh.objs.size + 1) = some (xN (hh.objs.size + 1) C (some dx)) := by rw [eH]; exact upd_same
        obtain ⟨⟨t1, sl1, ho1⟩, _, _⟩ := (show ObjOk X.prog X.w H2 s'.heap (hh.objs.size + 1) (xN (hh.objs.size + 1) C (some dx)) from I2.hok _ _ hx2)
        refine ⟨hh.objs.size + 1, t1, some dx, sl1, rfl, I2.kIn, O, ho1, ?_⟩
        have eD : delH H2 (hh.objs.size + 1) = upd H1 dx (.xd [("at", v)]) := by
          funext b
          by_cases z : b = hh.objs.size + 1
          · subst z; rw [delH_same, upd_ne (Ne.symm n2)]; exact he1.symm
          · rw [delH_ne z, eH, upd_ne z]
            by_cases z2 : b = dx
            · subst z2; rw [upd_same, upd_same]
            · rw [upd_ne z2, upd_ne z2, upd_ne z]
        have qE : E (.ref C) (some dx) (delH H2 (hh.objs.size + 1)) := by rw [eD]; exact q dx n1
        rw [Bd.xe]
        have hfr : X.A.frames = some (X.env :: X.outer) := by rw [← Bd.stk]; exact I.ok.frames
        have nS : hh.objs.size + 1 ∉ frs X.stack := fun m => by
          have := I2.stkFree _ m
          rw [hx2] at this; cases this
        have hin : ∀ env ∈ X.stack, ∀ b, env.frame = some b → b ∈ ((hh.objs.size + 1) :: frs X.stack) := fun env he b hb => List.mem_cons_of_mem _ (List.mem_filterMap.mpr ⟨env, he, hb⟩)
        have ff : s'.heap.FunFrames (PySem.W.hideAll s'.heap ((hh.objs.size + 1) :: frs X.stack)) (X.env :: X.outer) := by
          have z := PySem.W.funFrames_hide I2.stack hin
          rw [← Bd.stk]
          exact z
        refine leave_first (s := s') hfr Bd.fr (fun b o q => PySem.W.of_hideAll _ q) (PySem.W.hideAll_none _ (List.mem_cons_self ..)) ff ho1 rfl rfl ⟨_, rfl, .none⟩ fun h3 fly up => ?_
        exact ⟨_, C, some dx, delH H2 (hh.objs.size + 1), _, rfl, I2.os, I2.bare, fun h'' st up2 => clo_del Bd I2 hx2 new0' nS up h'' st up2, fly, delH_same, new0', qE⟩
  first
    | refine wpAny_bind (wpAny_standAt (raise_obj (K := X.K) (C := C) (CB := CB) (fI := fI) (I.ok.hd hc) (wpAny_bind (wpAny_mono key (fun v s₃ h₃ => wpAny_bind (wpAny_standAt (wpAny_pure h₃))) fun _ _ x => x))))
    | (simp only [evalOpt, Option.map]; refine wpAny_bind (wpAny_standAt (raise_obj (K := X.K) (C := C) (CB := CB) (fI := fI) (I.ok.hd hc) (wpAny_bind (wpAny_mono key (fun v s₃ h₃ => wpAny_bind (wpAny_standAt (wpAny_pure h₃))) fun _ _ x => x)))))
end
end L2
namespace L2
open PySem PySem.Spec PySem.Calls PyProof.Rows PySem.W Builtin Builtin.ObjectAttr
def XTr (K : PySem.W.Frag) (Bc : Addr) (D : Ends) (σ : St) (i : Nat) (ts : TS) : XK := fun c d H2 => ∃ C, c = .ref C ∧ PySem.W.exmOne K (.ref C) (.ref Bc) = some true ∧ ∀ a, H2 a = none → ts (D.gone i) (σ.set i (some (.ref a))) (upd H2 a (xC a C d))
section
variable {X : Cx} {c : Bool} {k : Nat} {ps : List Str} {sp : Sp} {x xc n : Str} {p pos cpos epos np hp : Pos} {e : Expr} {es : List Expr} {t : TA} {Bc : Addr} {b₀ : Stmt} {suite : List Stmt} {ts : TS} {i : Nat}
theorem ps_tryGD {body : List Stmt} {tb : TBd} (hb : PTB X body tb) (hst : X.stack = X.env :: X.outer) (hf : X.env.frame = some X.env.locals)
    (hcl : X.mg xc = some (.ref Bc)) (hs : ∀ a, PSs (X.hnd a) (b₀ :: suite) ts) (hN : X.N.Nodup) (hi : X.N[i]? = some n) (hloc : X.env.scope.names.lookup n = some .local) (hgc : Gl X xc := by rfl) (hdc : (xc == ("__debug__" : Str)) = false := by decide) :
    PS X (.Try body [.ExceptHandler (some (.Name xc np)) (some n) (b₀ :: suite) hp] [] [] pos) (fun D σ H => tb (XTr X.K Bc D σ i ts) (fun H2 => D.nx σ H2) σ H) := by
  intro pins s σ H D I h
  refine wpAny_Try_except (wpAny_mono (hb pins s σ H _ _ I h) (fun f s1 hq => ?_) (fun e s' hx => ?_))
  · obtain ⟨rfl, H2, I2, q⟩ := hq
    exact wpAny_execs_nil ⟨σ, H2, I2, q⟩
  · obtain ⟨H1, s1, I1, a, C, d, H', B, rfl, os, bare, clo, fly, na, nw, C', eC, hmm, q2⟩ := hx
    cases eC
    exact handle_asG (φ := XC a C d) (fun _ o h1 h2 h3 ⟨vs, h4⟩ => ⟨o, vs, h1, h2, h3, h4⟩) (fun _ _ z k => z.stay k) I1 hst hf os bare clo fly na nw hgc hcl hmm (hs a) hN hi hloc (q2 a na) hdc
end
section
variable {X : Cx}
theorem call_isiD1 : CallR X (.builtin "isinstance") (fun xs H Q => ∃ a C d v c b, xs = [.ref a, v] ∧ H a = some (xC a C d) ∧ ExcK X.K C ∧ RelV v c ∧ kitOne X.K (.ref C) c = some b ∧ Q (.bl b) H) := by
  intro pins s σ H xs us Q I r h
  obtain ⟨a, C, d, v, c, b, rfl, ha, F, rc, e, q⟩ := h
  obtain ⟨u, v', rfl, ru, rv⟩ := vals2 r
  cases (show u = Value.ref a from ru)
  have ec : v' = c := by
    cases v with
    | ref D => exact (show v' = .ref D from rv).trans (show c = .ref D from rc).symm
    | ty T => exact (show v' = .type T from rv).trans (show c = .type T from rc).symm
    | non => exact (show v' = .none from rv).trans (show c = .none from rc).symm
    | bl z => exact (show v' = .bool z from rv).trans (show c = .bool z from rc).symm
    | int i => obtain ⟨t, rfl⟩ := rc; exact absurd e (by unfold kitOne kitCls; simp)
    | str i => obtain ⟨t, rfl⟩ := rc; exact absurd e (by unfold kitOne kitCls; simp)
    | byt i => obtain ⟨t, rfl⟩ := rc; exact absurd e (by unfold kitOne kitCls; simp)
    | flt i => obtain ⟨t, rfl⟩ := rc; exact absurd e (by unfold kitOne kitCls; simp)
  subst ec
  have ob : ObjOk X.prog X.w H s.heap a (xC a C d) := I.hok a _ ha
  exact kia_one (kitx_exc F) I.kIn (XC.at ob.1) e (fun z => nomatch z) fun tk => ⟨.bl b, H, I.tok _, rfl, q⟩
theorem call_isiDT : CallR X (.builtin "isinstance") (fun xs H Q => ∃ (a C p : Addr) (d : Option Addr) (cs : List Addr), xs = [.ref a, .ref p] ∧ H a = some (xC a C d) ∧ ExcK X.K C ∧ SqT X.K H p (cs.map V.ref) ∧ (∀ c ∈ cs, PySem.W.kitOne X.K (.ref C) (.ref c) = some false) ∧ Q (.bl false) H) := by
  intro pins s σ H xs us Q I r h
  obtain ⟨a, C, p, d, cs, rfl, ha, F, hp, e, q⟩ := h
  obtain ⟨u, v', rfl, ru, rv⟩ := vals2 r
  cases (show u = Value.ref a from ru)
  cases (show v' = Value.ref p from rv)
  have ob : ObjOk X.prog X.w H s.heap a (xC a C d) := I.hok a _ ha
  obtain ⟨its, rs, tp, _⟩ := I.tuple hp
  have all : ∀ {xs : List Addr} {is_ : List Value}, Vals (xs.map V.ref) is_ → is_ = xs.map Value.ref := by
    intro xs
    induction xs with
    | nil => intro is_ h; cases h; rfl
    | cons x xs ih =>
      intro is_ h
      cases h with
      | cons h1 h2 =>
        rw [ih h2, show _ = Value.ref x from h1]
        rfl
  obtain rfl := all rs
  obtain ⟨o, ho, hc, n, hs⟩ := tp
  obtain ⟨oc, od, os_, osl⟩ := o
  cases (show oc = _ from hc)
  cases (show os_ = _ from hs)
  exact PySem.W.kia_tup (kitx_exc F) I.kIn (XC.at ob.1) ho (kitAny_no fun c hc => by obtain ⟨c', h1, rfl⟩ := List.mem_map.mp hc; exact e c' h1) (fun z => nomatch z) fun tk => ⟨.bl false, H, I.tok _, rfl, q⟩
end
section
variable {prog : Program} {w : World} {A : Around} {E : Value → Shared → Prop} {s : Shared} {K : PySem.W.Frag} {x C : Addr} {ox od : Obj} {f : Str} {v : Value}
theorem xfld_entry {Q : Fin → Shared → Prop} {tk : Tok} (X : K.In s.heap) (I : InstAt s.heap x ox C (some od)) (hf : findObj K C (some od) f = some (.value v)) (hh : handedIn v = true) (hq : Q (.done (.ret v)) s) :
    wpAny (model prog w) A (Builtin.«object.__getattribute__» ⟨[.ref x, .str f tk], []⟩) Q E s := by
  obtain ⟨hp, g, d, t, os⟩ := s
  have y0 := I.type (M := model prog w)
  have y2 := looks_find (M := model prog w) X I hf
  unfold Builtin.«object.__getattribute__»
  repeat (any_goals (first | assumption | (with_reducible refine y0.at ?_) | (with_reducible refine y2.at ?_) | wp_step))
theorem xfld_get {expr : Bool} {Q : Value → Shared → Prop} (X : K.In s.heap) (F : ExcK K C) (I : InstAt s.heap x ox C (some od)) (hf : findObj K C (some od) f = some (.value v)) (hh : handedIn v = true) (h : Q v { s with toks := s.toks + 1 }) :
    wpAny (model prog w) A (getAttr (.ref x) f expr) Q E s := by
  obtain ⟨hp, g, d, t, os⟩ := s
  have y0 := I.type (M := model prog w)
  have y1 := looks_findIn (M := model prog w) X F.ga
  have y3 := looks_findIn (M := model prog w) X F.gt
  have f3 := PySem.F.excAttr_ValueError.ga.bind (.ref x)
  have ex : ExcAt x C hp := ⟨ox, I.at_, I.cls⟩
  have hx1 : (onTheHeap (Value.ref C) && Value.builtin "BaseException.__getattribute__" == Value.builtin "object.__getattribute__") = false := by
    rw [show (Value.builtin "BaseException.__getattribute__" == Value.builtin "object.__getattribute__") = false by decide +kernel]; rfl
  unfold getAttr getAttrBy
  refine wpAny_bind (wpAny_mkText (wpAny_holding (wpAny_bind (y0.at (wpAny_bind (y1.at ?_))))))
  dsimp only
  rw [hx1]
  rw [if_neg Bool.false_ne_true]
  unfold getAttrByItsOwn hookBefore
  repeat (any_goals (first | assumption | wp_step | lk))
  have hx2 : (expr && onTheHeap (Value.builtin "BaseException.__getattribute__")) = false := Bool.and_false _
  rw [hx2, if_neg Bool.false_ne_true]
  unfold boundAndCalled
  repeat (any_goals (first | assumption | wp_step | lk))
  refine codeAny_call_builtin PySem.F.excAttr_ValueError.ga.plain PySem.F.entry_bexc_ga (exc_check (s := ⟨hp, g, d, t + 1, os⟩) X ex F (xfld_entry (s := ⟨hp, g, d, t + 1, os⟩) X I hf hh ?_))
  show wpAny _ _ (handedOut v) _ _ _
  rw [handedOut_of hh]
  exact wpAny_pure h
end
section
variable {X : Cx} {e : Expr} {ta : TE} {f : Str} {pos : Pos}
def tXat (K : PySem.W.Frag) (ta : TE) (f : Str) : TE := fun σ H Q => ta σ H fun x H1 => ∃ a C dx fs v, x = .ref a ∧ H1 a = some (xC a C (some dx)) ∧ H1 dx = some (.xd fs) ∧ ExcK K C ∧ PySem.W.hasDictIn K C = true ∧ NoAttr K C f ∧ fs.lookup f = some v ∧ Q v H1
theorem pe_xat (he : PE X e ta) (hb : attributeBase e f X.env (eval e X.env) = eval e X.env := by rfl) : PE X (.Attribute e f pos) (tXat X.K ta f) := by
  intro pins s σ H Q I h
  refine attr_of hb (thn (he pins s σ H _ I h) fun u s1 ⟨x, H1, I1, rx, a, C, dx, fs, v, ex, ea, ed, F, hd, n, l, q⟩ => ?_)
  subst ex
  obtain rfl : u = Value.ref a := rx
  obtain ⟨⟨o, vs, ho, hc, hdd, hdat⟩, _, _⟩ := (show ObjOk X.prog X.w H1 s1.heap a (xC a C (some dx)) from I1.hok a _ ea)
  obtain ⟨mA, ns, r⟩ := (show ObjOk X.prog X.w H1 s1.heap dx (.xd fs) from I1.hok dx _ ed)
  obtain ⟨od, hod, hl⟩ := lookIn_ns ns
  obtain ⟨u, hu, ru⟩ := RelO.some_of (v := v) (o := mA f) (by rw [← l]; exact r f)
  have J : InstAt s1.heap a o C (some od) := ⟨ho, hc, by obtain ⟨c0, d0, dt0, sl0⟩ := o; cases (show dt0 = .fields vs from hdat); rfl, by rw [hdd]; exact hod⟩
  exact xfld_get I1.kIn F J (findObj_own hd n rfl (by rw [hl, hu])) (handed_of ru) ⟨v, H1, I1.tok _, ru, q⟩
theorem pa_attr {o : Expr} {f : Str} {p : Pos} {te : TE} {es : List Expr} {t : TA} (ha : PE X (.Attribute o f p) te) (hr : PA X es t) : PA X (.Attribute o f p :: es) (tCons te t) := pa_cons ha hr (by rfl)
theorem call_isiD1K {K : PySem.W.Frag} (hK : X.K = K := by rfl) : CallR X (.builtin "isinstance") (fun xs H Q => ∃ a C d v c b, xs = [.ref a, v] ∧ H a = some (xC a C d) ∧ ExcK K C ∧ RelV v c ∧ kitOne K (.ref C) c = some b ∧ Q (.bl b) H) := hK ▸ call_isiD1
theorem call_isiDTK {K : PySem.W.Frag} (hK : X.K = K := by rfl) : CallR X (.builtin "isinstance") (fun xs H Q => ∃ (a C p : Addr) (d : Option Addr) (cs : List Addr), xs = [.ref a, .ref p] ∧ H a = some (xC a C d) ∧ ExcK K C ∧ SqT K H p (cs.map V.ref) ∧ (∀ c ∈ cs, PySem.W.kitOne K (.ref C) (.ref c) = some false) ∧ Q (.bl false) H) := hK ▸ call_isiDT
theorem pe_xatK {K : PySem.W.Frag} (he : PE X e ta) (hb : attributeBase e f X.env (eval e X.env) = eval e X.env := by rfl) (hK : X.K = K := by rfl) : PE X (.Attribute e f pos) (tXat K ta f) := hK ▸ pe_xat he hb
end
end L2
namespace L2
open PySem PySem.Spec PySem.Calls PyProof.Rows PySem.W
end L2
namespace Lib
open PySem L2 Fr Op
def noB (d : PyData) : Prop := isLstD d = false ∨ ∃ ds, d = .list ds ∧ 60 < ds.length
def badAt (ds : List PyData) (i : Nat) : Prop := ds.length ≤ 60 ∧ (∀ d ∈ ds, SmP d) ∧ (∀ j, j < i → ∀ d, ds[j]? = some d → pieceD d = true) ∧ ∃ d, ds[i]? = some d ∧ pieceD d = false
def RefB (d : PyData) (o : Option Nat) : Prop := (noB d ∧ o = none) ∨ ∃ (ds : List PyData) (i : Nat), d = .list ds ∧ badAt ds i ∧ o = some i
def atV : Option Nat → V
  | none => .non
  | some i => .int (i : Int)
theorem dv_at {K : PySem.W.Frag} {H : Hp} : ∀ o : Option Nat, DV K H (atV o) (optD o)
  | none => .non
  | some i => .int _
def RaisedAt (H : Hp) (C : Addr) (o : Option Nat) (E : XK) : Prop := ∀ H' dx, Same H H' → H' dx = some (.xd [("at", atV o)]) → E (.ref C) (some dx) H'
def spLookN (K : PySem.W.Frag) (C : Addr) : Sp := fun vs H _ E => ∃ v d o, vs = [v] ∧ DV K H v d ∧ RefB d o ∧ RaisedAt H C o E
def smE : PyData → Bool
  | .tuple [.int a, .int b] => decide (a.natAbs < 1000) && decide (b.natAbs < 1000)
  | _ => true
def smT : PyData → Bool
  | .tuple ds => decide (ds.length ≤ 1000) && ds.all smE
  | _ => true
theorem smP_b {d : PyData} (h : smT d = true) : SmP d := by
  intro ds e
  subst e
  have h : (decide (ds.length ≤ 1000) && ds.all smE) = true := h
  rw [Bool.and_eq_true] at h
  refine ⟨of_decide_eq_true h.1, fun q hq => ?_⟩
  have z : (decide (q.num.natAbs < 1000) && decide (((q.den : Nat) : Int).natAbs < 1000)) = true := List.all_eq_true.mp h.2 _ hq
  rw [Bool.and_eq_true] at z
  have z1 : q.num.natAbs < 1000 := of_decide_eq_true z.1
  have z2 : ((q.den : Nat) : Int).natAbs < 1000 := of_decide_eq_true z.2
  rw [Int.natAbs_natCast] at z2
  have b : Bd 10 q := ⟨by omega, by omega⟩
  exact b.sm (by decide)
def OddB (d : PyData) : Prop := pieceD d = false ∧ SmP d
theorem badAt_mid {m i : Nat} {ps : List Pc} {d : PyData} {ds : List PyData} (hm : m ≤ 4000) (g : Good m ps) (hi : i ≤ ps.length) (o : OddB d) (ho : ∀ e ∈ ds, SmP e) (hl : ps.length + 1 + ds.length ≤ 60) :
    badAt ((ps.take i).map pcD ++ d :: (ps.drop i).map pcD ++ ds) i := by
  have lt : ((ps.take i).map pcD).length = i := by rw [List.length_map, List.length_take]; omega
  refine ⟨?_, fun e he => ?_, fun j hj e he => ?_, d, ?_, o.1⟩
  · simp only [List.length_append, List.length_cons, List.length_map, List.length_take, List.length_drop]
    omega
  · rw [List.append_assoc] at he
    rcases List.mem_append.mp he with h | h
    · obtain ⟨p, hp, rfl⟩ := List.mem_map.mp h
      exact smP_pc hm (g.bd _ (List.mem_of_mem_take hp))
    · rcases List.mem_cons.mp h with rfl | h
      · exact o.2
      · rcases List.mem_append.mp h with h | h
        · obtain ⟨p, hp, rfl⟩ := List.mem_map.mp h
          exact smP_pc hm (g.bd _ (List.mem_of_mem_drop hp))
        · exact ho e h
  · rw [List.append_assoc, List.getElem?_append_left (by omega), List.getElem?_map] at he
    obtain ⟨p, hp, rfl⟩ := Option.map_eq_some_iff.mp he
    exact pieceD_pc (g.ok _ (List.mem_of_mem_take (List.mem_of_getElem? hp)))
  · rw [List.append_assoc, List.getElem?_append_right (by omega), lt, Nat.sub_self]
    rfl
theorem dvs_repl {K : PySem.W.Frag} {H : Hp} {v : V} {d : PyData} (h : DV K H v d) : ∀ n, DVs K H (List.replicate n v) (List.replicate n d)
  | 0 => .nil
  | n + 1 => by rw [List.replicate_succ, List.replicate_succ]; exact .cons h (dvs_repl h n)
theorem rep_flat1 (n : Nat) (x : V) : (List.replicate n [x]).flatten = List.replicate n x := by
  induction n with
  | zero => rfl
  | succ n ih => rw [List.replicate_succ, List.flatten_cons, ih, List.replicate_succ]; rfl
end Lib
namespace Lib
open PySem L2 Fr Op
end Lib
namespace L2
open PySem PySem.Spec PyProof.Rows
end L2
namespace L2
open PySem PySem.Spec PyProof.Rows PySem.Builtin PySem.Builtin.Str
end L2
namespace Lib
open PySem L2 Fr Op
end Lib
namespace L2
open PySem PySem.Spec PyProof.Rows PySem.Builtin PySem.SeqAt
def rInD (K : PySem.W.Frag) (neg : Bool) : R2 := fun x y H Q => ∃ p xs dx ds, y = .ref p ∧ SqL K H p xs ∧ DV K H x dx ∧ DVs K H xs ds ∧ dx.canLay0 = true ∧ dx.depth ≤ 60 ∧ PyData.canLayAll0 ds = true ∧ Q (.bl (if neg then !ds.any (fun d => PyData.eqv d dx) else ds.any (fun d => PyData.eqv d dx))) H
theorem readsAll_get {h : Heap} : ∀ {us : List Value} {ds : List PyData} {as : List Addr}, ReadsAll h us ds as → ∀ u ∈ us, ∃ d as, d ∈ ds ∧ Reads h u d as
  | _, _, _, .nil, u, hu => nomatch hu
  | _, _, _, .cons r rs, u, hu => by
    rcases List.mem_cons.mp hu with rfl | hu
    · exact ⟨_, _, List.mem_cons_self, r⟩
    · obtain ⟨d, as, hd, hr⟩ := readsAll_get rs u hu
      exact ⟨d, as, List.mem_cons_of_mem _ hd, hr⟩
theorem canLay_mem : ∀ {ds : List PyData}, PyData.canLayAll0 ds = true → ∀ d ∈ ds, d.canLay0 = true
  | [], _, d, h => nomatch h
  | e :: ds, c, d, h => by
    rw [PyData.canLayAll0] at c
    rcases List.mem_cons.mp h with rfl | h
    · exact (Bool.and_eq_true_iff.mp c).1
    · exact canLay_mem (Bool.and_eq_true_iff.mp c).2 d h
noncomputable def eqAs (h : Heap) (dx : PyData) (u : Value) : Bool := @dite Bool (∃ d as, Reads h u d as ∧ d.canLay0 = true) (Classical.propDecidable _) (fun c => PyData.eqv (Classical.choose c) dx) (fun _ => false)
theorem eqAs_of {h : Heap} {dx d : PyData} {u : Value} {as : List Addr} (r : Reads h u d as) (c : d.canLay0 = true) : eqAs h dx u = PyData.eqv d dx := by
  unfold eqAs
  have e : ∃ d as, Reads h u d as ∧ d.canLay0 = true := ⟨d, as, r, c⟩
  rw [dif_pos e]
  obtain ⟨as', r', _⟩ := Classical.choose_spec e
  rw [← PySem.SeqAt.Reads.unique d _ u as as' c r r']
theorem any_eqAs {h : Heap} {dx : PyData} : ∀ {us : List Value} {ds : List PyData} {as : List Addr}, ReadsAll h us ds as → PyData.canLayAll0 ds = true → us.any (eqAs h dx) = ds.any (fun d => PyData.eqv d dx)
  | _, _, _, .nil, _ => rfl
  | _, _, _, .cons r rs, c => by
    rw [PyData.canLayAll0] at c
    rw [List.any_cons, List.any_cons, any_eqAs rs (Bool.and_eq_true_iff.mp c).2, eqAs_of r (Bool.and_eq_true_iff.mp c).1]
section
variable {X : Cx}
theorem op_notInD (hu : X.A.units + 64 < cLine) : OpR X (compareOp .NotIn) (rInD X.K true) := by
  intro pins s σ H x y v u Q I rx ry h
  obtain ⟨p, xs, dx, ds, rfl, hq, hx, hd, cx, dp, cs, q⟩ := h
  cases ry
  obtain ⟨its, r, pl, hz⟩ := I.list hq
  obtain ⟨a1, r1⟩ := hx.reads I cx rx
  obtain ⟨a2, r2⟩ := DVs.reads I hd cs r
  refine SeqAt.notIn_listAt (eqAs s.heap dx) pl.isList (fun w hw => ?_) ⟨.bl _, H, I, rfl, ?_⟩
  · obtain ⟨d, as, hd', hr⟩ := readsAll_get r2 w (by simpa using hw)
    rw [eqAs_of hr (canLay_mem cs d hd')]
    refine eqAt_reads d dx X.A.in1 s w v as a1 hr r1 (canLay_mem cs d hd') cx ?_
    have : X.A.in1.units = X.A.units + 1 := rfl
    have := Nat.min_le_right d.depth dx.depth
    omega
  · rw [show its.toArray.any (eqAs s.heap dx) = its.any (eqAs s.heap dx) by simp, any_eqAs r2 cs]
    exact q
end
end L2
namespace Op
open Fr
def befR (a b : Ray) : Bool := if a.1 = b.1 then decide (a.2 < b.2) else decide (a.1 < b.1)
def turnR (s e r : Ray) : Rat := (e.1 - s.1) * (r.2 - s.2) - (e.2 - s.2) * (r.1 - s.1)
def atR (cs : List Ray) (i : Nat) : Ray := cs.getD i (0, 0)
def prevR (cs : List Ray) (i : Nat) : Ray := if i = 0 then atR cs (cs.length - 1) else atR cs (i - 1)
end Op
namespace Lib
open PySem L2 Fr Op
structure Rn (n : Nat) (r : Ray) : Prop where
  y : Bd n r.1
  u : Bd n r.2
def RBef : List PyData → PyData → Prop := fun ds d => ∃ a b n, ds = [rayD a, rayD b] ∧ Rn n a ∧ Rn n b ∧ n ≤ 4000 ∧ d = .bool (befR a b)
theorem atR_of {cs : List Ray} {i : Nat} {c : Ray} (h : cs[i]? = some c) : atR cs i = c := by
  unfold atR
  rw [List.getD_eq_getElem?_getD, h]
  rfl
theorem atR_mem {cs : List Ray} {i : Nat} (h : i < cs.length) : atR cs i ∈ cs := by
  rw [atR_of (List.getElem?_eq_getElem h)]
  exact List.getElem_mem h
theorem prevR_mem {cs : List Ray} {i : Nat} (h : i < cs.length) : prevR cs i ∈ cs := by
  unfold prevR
  split
  · exact atR_mem (by omega)
  · exact atR_mem (by omega)
theorem dvs_ray {K : PySem.W.Frag} {H : Hp} {xs : List V} {cs : List Ray} (h : DVs K H xs (cs.map rayD)) {i : Nat} (hi : i < cs.length) : ∃ v, xs[i]? = some v ∧ DV K H v (rayD (atR cs i)) := by
  have hl := h.len
  rw [List.length_map] at hl
  obtain ⟨d, hd, hv⟩ := h.get (i := i) (List.getElem?_eq_getElem (show i < xs.length by omega))
  obtain ⟨c, hc, rfl⟩ := get_map_ray hd
  rw [← atR_of hc] at hv
  exact ⟨_, List.getElem?_eq_getElem (show i < xs.length by omega), hv⟩
theorem atI_m1 {xs : List V} {v : V} (h : xs[xs.length - 1]? = some v) : atI xs (-1) = some v := last_get (by rw [List.getLast?_eq_getElem?]; exact h)
theorem dvs_prev {K : PySem.W.Frag} {H : Hp} {xs : List V} {cs : List Ray} (h : DVs K H xs (cs.map rayD)) {i : Nat} (hi : i < cs.length) : ∃ v, atI xs ((i : Int) - 1) = some v ∧ DV K H v (rayD (prevR cs i)) := by
  have hl := h.len
  rw [List.length_map] at hl
  cases i with
  | zero =>
    obtain ⟨v, hv, hd⟩ := dvs_ray h (i := cs.length - 1) (by omega)
    refine ⟨v, ?_, hd⟩
    rw [show (((0 : Nat) : Int) - 1) = -1 from rfl]
    exact atI_m1 (by rw [hl]; exact hv)
  | succ j =>
    obtain ⟨v, hv, hd⟩ := dvs_ray h (i := j) (by omega)
    refine ⟨v, ?_, hd⟩
    rw [show (((j + 1 : Nat) : Int) - 1) = (j : Int) by omega]
    exact atI_nat hv
theorem any_ray (cs : List Ray) (r : Ray) : (cs.map rayD).any (fun d => PyData.eqv d (rayD r)) = cs.any (fun c => decide (c = r)) := by
  induction cs with
  | nil => rfl
  | cons c cs ih => rw [List.map_cons, List.any_cons, List.any_cons, ih, eqv_ray]
theorem lay_rays (cs : List Ray) : PyData.canLayAll0 (cs.map rayD) = true := by
  induction cs with
  | nil => rfl
  | cons c cs ih =>
    rw [List.map_cons, PyData.canLayAll0, ih]
    rfl
end Lib
namespace Op
open Fr
abbrev Edg := Rat × Rat × Rat
def roomR (e : Edg) (r : Ray) : Rat := e.1 * r.1 + e.2.1 * r.2 + e.2.2
def mixR (t : Rat) (a b : Ray) : Ray := (a.1 + t * (b.1 - a.1), a.2 + t * (b.2 - a.2))
def cutT (e : Edg) (p q : Ray) : Rat := roomR e p / (roomR e p - roomR e q)
def crossP (e : Edg) (p q : Ray) : Ray := mixR (cutT e p q) p q
theorem room_mix (e : Edg) (t : Rat) (a b : Ray) : roomR e (mixR t a b) = (1 - t) * roomR e a + t * roomR e b := by
  unfold roomR mixR
  dsimp only
  grind
theorem turn_mix (p q : Ray) (t : Rat) (a b : Ray) : turnR p q (mixR t a b) = (1 - t) * turnR p q a + t * turnR p q b := by
  unfold turnR mixR
  dsimp only
  grind
theorem turn_rot (p q r : Ray) : turnR q r p = turnR p q r := by unfold turnR; grind
theorem turn_swap (p q r : Ray) : turnR p r q = - turnR p q r := by unfold turnR; grind
theorem turn_pqq (p q : Ray) : turnR p q q = 0 := by unfold turnR; grind
theorem turn_pqp (p q : Ray) : turnR p q p = 0 := by unfold turnR; grind
theorem turn_mix2 (t : Rat) (p q z : Ray) : turnR p (mixR t p q) z = t * turnR p q z := by
  unfold turnR mixR
  dsimp only
  grind
theorem turn_mix1 (t : Rat) (p q z : Ray) : turnR (mixR t p q) q z = (1 - t) * turnR p q z := by
  unfold turnR mixR
  dsimp only
  grind
theorem mulneg {a b : Rat} (h : a * b < 0) : (a < 0 ∧ 0 < b) ∨ (0 < a ∧ b < 0) := by
  rcases (show a < 0 ∨ a = 0 ∨ 0 < a by grind) with ha | ha | ha
  · rcases (show b < 0 ∨ b = 0 ∨ 0 < b by grind) with hb | hb | hb
    · have := Rat.mul_pos (show 0 < -a by grind) (show 0 < -b by grind)
      exfalso; grind
    · subst hb; exfalso; grind
    · exact .inl ⟨ha, hb⟩
  · subst ha; exfalso; grind
  · rcases (show b < 0 ∨ b = 0 ∨ 0 < b by grind) with hb | hb | hb
    · exact .inr ⟨ha, hb⟩
    · subst hb; exfalso; grind
    · have := Rat.mul_pos ha hb
      exfalso; grind
theorem negmul {a b : Rat} (ha : a < 0) (hb : 0 < b) : a * b < 0 := by
  have := Rat.mul_pos (show 0 < -a by grind) hb
  grind
theorem cutT_in {e : Edg} {p q : Ray} (h : roomR e p * roomR e q < 0) : 0 < cutT e p q ∧ cutT e p q < 1 := by
  unfold cutT
  generalize roomR e p = a at h ⊢
  generalize roomR e q = b at h ⊢
  have hd : a - b ≠ 0 := by rcases mulneg h with ⟨h1, h2⟩ | ⟨h1, h2⟩ <;> grind
  have e1 : a / (a - b) * (a - b) = a := by grind
  rcases mulneg h with ⟨h1, h2⟩ | ⟨h1, h2⟩
  · constructor
    · rcases (show a / (a - b) ≤ 0 ∨ 0 < a / (a - b) by grind) with c | c
      · have := Rat.mul_nonneg (show 0 ≤ -(a / (a - b)) by grind) (show 0 ≤ -(a - b) by grind)
        grind
      · exact c
    · rcases (show 1 ≤ a / (a - b) ∨ a / (a - b) < 1 by grind) with c | c
      · have := Rat.mul_nonneg (show 0 ≤ a / (a - b) - 1 by grind) (show 0 ≤ -(a - b) by grind)
        grind
      · exact c
  · constructor
    · rcases (show a / (a - b) ≤ 0 ∨ 0 < a / (a - b) by grind) with c | c
      · have := Rat.mul_nonneg (show 0 ≤ -(a / (a - b)) by grind) (show 0 ≤ (a - b) by grind)
        grind
      · exact c
    · rcases (show 1 ≤ a / (a - b) ∨ a / (a - b) < 1 by grind) with c | c
      · have := Rat.mul_nonneg (show 0 ≤ a / (a - b) - 1 by grind) (show 0 ≤ (a - b) by grind)
        grind
      · exact c
theorem cross_room {e : Edg} {p q : Ray} (h : roomR e p * roomR e q < 0) : roomR e (crossP e p q) = 0 := by
  unfold crossP
  rw [room_mix]
  unfold cutT
  generalize roomR e p = a at h ⊢
  generalize roomR e q = b at h ⊢
  have hd : a - b ≠ 0 := by rcases mulneg h with ⟨h1, h2⟩ | ⟨h1, h2⟩ <;> grind
  grind
theorem turn_line {e : Edg} {s t : Ray} (hs : roomR e s = 0) (ht : roomR e t = 0) (hst : s ≠ t) (he : e.1 ≠ 0 ∨ e.2.1 ≠ 0) : ∃ k : Rat, k ≠ 0 ∧ ∀ z, turnR s t z = k * roomR e z := by
  obtain ⟨a, b, c⟩ := e
  obtain ⟨s1, s2⟩ := s
  obtain ⟨t1, t2⟩ := t
  unfold roomR at hs ht ⊢
  unfold turnR
  dsimp only at hs ht he ⊢
  have hne : t1 - s1 ≠ 0 ∨ t2 - s2 ≠ 0 := by
    rcases (show t1 - s1 = 0 ∨ t1 - s1 ≠ 0 by grind) with c1 | c1
    · rcases (show t2 - s2 = 0 ∨ t2 - s2 ≠ 0 by grind) with c2 | c2
      · exact absurd (show ((s1, s2) : Ray) = (t1, t2) by rw [show t1 = s1 by grind, show t2 = s2 by grind]) hst
      · exact .inr c2
    · exact .inl c1
  rcases he with he | he
  · refine ⟨-(t2 - s2) / a, ?_, fun z => ?_⟩
    · intro h
      have h2 : t2 - s2 = 0 := by grind
      have h1 : a * (t1 - s1) = 0 := by grind
      rcases hne with h3 | h3
      · grind
      · exact h3 h2
    · grind
  · refine ⟨(t1 - s1) / b, ?_, fun z => ?_⟩
    · intro h
      have h2 : t1 - s1 = 0 := by grind
      have h1 : b * (t2 - s2) = 0 := by grind
      rcases hne with h3 | h3
      · exact h3 h2
      · grind
    · grind
end Op
namespace Op
open Fr
def pairsF (l : Ray) : List Ray → List (Ray × Ray)
  | [] => []
  | q :: r => (l, q) :: pairsF q r
def edgesR (ps : List Ray) : List (Ray × Ray) := match ps.getLast? with
  | none => []
  | some l => pairsF l ps
theorem pairsF_snoc (l q : Ray) : ∀ ps : List Ray, pairsF l (ps ++ [q]) = pairsF l ps ++ [(((l :: ps).getLast (by simp)), q)]
  | [] => rfl
  | p :: r => by
    show (l, p) :: pairsF p (r ++ [q]) = _
    rw [pairsF_snoc p q r]
    rfl
theorem pairsF_mem {l : Ray} {ps : List Ray} {x : Ray × Ray} (h : x ∈ pairsF l ps) : (x.1 = l ∨ x.1 ∈ ps) ∧ x.2 ∈ ps := by
  induction ps generalizing l with
  | nil => cases h
  | cons q r ih =>
    rcases List.mem_cons.mp (show x ∈ (l, q) :: pairsF q r from h) with rfl | h
    · exact ⟨.inl rfl, by simp⟩
    · obtain ⟨h1, h2⟩ := ih h
      exact ⟨.inr (by rcases h1 with h1 | h1 <;> simp [h1]), List.mem_cons_of_mem _ h2⟩
theorem edges_mem {ps : List Ray} {x : Ray × Ray} (h : x ∈ edgesR ps) : x.1 ∈ ps ∧ x.2 ∈ ps := by
  unfold edgesR at h
  cases e : ps.getLast? with
  | none => rw [e] at h; cases h
  | some l =>
    rw [e] at h
    obtain ⟨h1, h2⟩ := pairsF_mem h
    refine ⟨?_, h2⟩
    rcases h1 with h1 | h1
    · rw [h1]; exact List.mem_of_getLast? e
    · exact h1
theorem pairsF_into {l q : Ray} : ∀ {ps : List Ray}, q ∈ ps → ∃ p, (p, q) ∈ pairsF l ps
  | [], h => nomatch h
  | z :: r, h => by
    rcases List.mem_cons.mp h with rfl | h
    · exact ⟨l, by simp [pairsF]⟩
    · obtain ⟨p, hp⟩ := pairsF_into (l := z) h
      exact ⟨p, List.mem_cons_of_mem _ hp⟩
theorem edges_into {q : Ray} {ps : List Ray} (h : q ∈ ps) : ∃ p, (p, q) ∈ edgesR ps := by
  unfold edgesR
  cases e : ps.getLast? with
  | none => rw [List.getLast?_eq_none_iff] at e; subst e; cases h
  | some l => exact pairsF_into h
theorem pairsF_from {p : Ray} : ∀ {l : Ray} {ps : List Ray}, p ∈ l :: ps → (∃ q, (p, q) ∈ pairsF l ps) ∨ (l :: ps).getLast (by simp) = p
  | l, [], h => by rw [List.mem_singleton.mp h]; exact .inr rfl
  | l, z :: r, h => by
    rcases List.mem_cons.mp h with rfl | h
    · exact .inl ⟨z, by simp [pairsF]⟩
    · rcases pairsF_from h with ⟨q, hq⟩ | hq
      · exact .inl ⟨q, List.mem_cons_of_mem _ hq⟩
      · exact .inr (by rw [List.getLast_cons (by simp)]; exact hq)
theorem edges_from {p : Ray} {ps : List Ray} (h : p ∈ ps) : ∃ q, (p, q) ∈ edgesR ps := by
  cases ps with
  | nil => cases h
  | cons z r =>
    have e : (z :: r).getLast? = some ((z :: r).getLast (by simp)) := List.getLast?_eq_some_getLast (by simp)
    unfold edgesR
    rw [e]
    show ∃ q, (p, q) ∈ ((z :: r).getLast (by simp), z) :: pairsF z r
    rcases pairsF_from (l := z) (ps := r) h with ⟨q, hq⟩ | hq
    · exact ⟨q, List.mem_cons_of_mem _ hq⟩
    · exact ⟨z, by rw [hq]; simp⟩
structure ES (ps : List Ray) : Prop where
  nd : ps.Nodup
  st : ∀ x ∈ edgesR ps, ∀ z ∈ ps, z ≠ x.1 → z ≠ x.2 → 0 < turnR x.1 x.2 z
theorem ES.ge {ps : List Ray} (h : ES ps) {x : Ray × Ray} (hx : x ∈ edgesR ps) {z : Ray} (hz : z ∈ ps) : 0 ≤ turnR x.1 x.2 z := by
  by_cases c1 : z = x.1
  · rw [c1, turn_pqp]; exact Rat.le_refl
  · by_cases c2 : z = x.2
    · rw [c2, turn_pqq]; exact Rat.le_refl
    · have := h.st x hx z hz c1 c2
      grind
theorem pairsF_ne {l : Ray} {ps : List Ray} {x : Ray × Ray} (nd : (l :: ps).Nodup) (h : x ∈ pairsF l ps) : x.1 ≠ x.2 := by
  induction ps generalizing l with
  | nil => cases h
  | cons q r ih =>
    rcases List.mem_cons.mp (show x ∈ (l, q) :: pairsF q r from h) with rfl | h
    · intro e
      have := (List.nodup_cons.mp nd).1
      exact this (by rw [show l = q from e]; simp)
    · exact ih (List.nodup_cons.mp nd).2 h
theorem edges_ne {ps : List Ray} {x : Ray × Ray} (nd : ps.Nodup) (h2 : 2 ≤ ps.length) (h : x ∈ edgesR ps) : x.1 ≠ x.2 := by
  cases ps with
  | nil => simp at h2
  | cons z r =>
    have e : (z :: r).getLast? = some ((z :: r).getLast (by simp)) := List.getLast?_eq_some_getLast (by simp)
    unfold edgesR at h
    rw [e] at h
    rcases List.mem_cons.mp (show x ∈ ((z :: r).getLast (by simp), z) :: pairsF z r from h) with rfl | h
    · cases r with
      | nil => simp at h2
      | cons y r =>
        intro e
        have h3 : (z :: y :: r).getLast (by simp) = z := e
        rw [List.getLast_cons (by simp)] at h3
        exact (List.nodup_cons.mp nd).1 (by rw [← h3]; exact List.getLast_mem _)
    · exact pairsF_ne nd h
theorem third {ps : List Ray} (nd : ps.Nodup) (h3 : 3 ≤ ps.length) (p q : Ray) : ∃ z ∈ ps, z ≠ p ∧ z ≠ q := by
  match ps, nd, h3 with
  | a :: b :: c :: r, nd, _ =>
    have n1 := (List.nodup_cons.mp nd).1
    have n2 := (List.nodup_cons.mp (List.nodup_cons.mp nd).2).1
    have ab : a ≠ b := fun e => n1 (by rw [e]; simp)
    have ac : a ≠ c := fun e => n1 (by rw [e]; simp)
    have bc : b ≠ c := fun e => n2 (by rw [e]; simp)
    by_cases h1 : a = p ∨ a = q
    · by_cases h2 : b = p ∨ b = q
      · refine ⟨c, by simp, fun e => ?_, fun e => ?_⟩
        · rcases h1 with h1 | h1 <;> rcases h2 with h2 | h2
          · exact ab (h1.trans h2.symm)
          · exact ac (h1.trans e.symm)
          · exact bc (h2.trans e.symm)
          · exact ab (h1.trans h2.symm)
        · rcases h1 with h1 | h1 <;> rcases h2 with h2 | h2
          · exact ab (h1.trans h2.symm)
          · exact bc (h2.trans e.symm)
          · exact ac (h1.trans e.symm)
          · exact ab (h1.trans h2.symm)
      · exact ⟨b, by simp, fun e => h2 (.inl e), fun e => h2 (.inr e)⟩
    · exact ⟨a, by simp, fun e => h1 (.inl e), fun e => h1 (.inr e)⟩
theorem ES.back {ps : List Ray} (h : ES ps) (h3 : 3 ≤ ps.length) {p q : Ray} (h1 : (p, q) ∈ edgesR ps) (h2 : (q, p) ∈ edgesR ps) : False := by
  obtain ⟨z, hz, z1, z2⟩ := third h.nd h3 p q
  have a1 := h.st _ h1 z hz z1 z2
  have a2 := h.st _ h2 z hz z2 z1
  dsimp only at a1 a2
  have : turnR q p z = - turnR p q z := by unfold turnR; grind
  grind
theorem ES.mix {ps : List Ray} (h : ES ps) (h3 : 3 ≤ ps.length) {p q a b : Ray} (h1 : (p, q) ∈ edgesR ps) (h2 : (a, b) ∈ edgesR ps) (n : (a, b) ≠ (p, q)) {t : Rat} (t0 : 0 < t) (t1 : t < 1) : 0 < turnR p q (mixR t a b) := by
  rw [turn_mix]
  have ha := h.ge h1 (edges_mem h2).1
  have hb := h.ge h1 (edges_mem h2).2
  dsimp only at ha hb
  have nab := edges_ne h.nd (by omega) h2
  dsimp only at nab
  rcases (show turnR p q a = 0 ∨ 0 < turnR p q a by grind) with ca | ca
  · rcases (show turnR p q b = 0 ∨ 0 < turnR p q b by grind) with cb | cb
    · exfalso
      have in1 : a = p ∨ a = q := by
        by_cases c1 : a = p
        · exact .inl c1
        · by_cases c2 : a = q
          · exact .inr c2
          · have := h.st _ h1 a (edges_mem h2).1 c1 c2
            dsimp only at this
            grind
      have in2 : b = p ∨ b = q := by
        by_cases c1 : b = p
        · exact .inl c1
        · by_cases c2 : b = q
          · exact .inr c2
          · have := h.st _ h1 b (edges_mem h2).2 c1 c2
            dsimp only at this
            grind
      rcases in1 with rfl | rfl <;> rcases in2 with rfl | rfl
      · exact nab rfl
      · exact n rfl
      · exact h.back h3 h1 h2
      · exact nab rfl
    · have := Rat.mul_pos t0 cb
      rw [ca]
      grind
  · have x1 := Rat.mul_pos (show 0 < 1 - t by grind) ca
    have x2 := Rat.mul_nonneg (show 0 ≤ t by grind) hb
    grind
theorem between {f : Ray → Rat} {t : Rat} {s z m : Ray} (hf : f m = (1 - t) * f s + t * f z) (t0 : 0 < t) (t1 : t < 1) (hs : 0 ≤ f s) (hz : 0 ≤ f z) (hm : f m = 0) : f s = 0 ∧ f z = 0 := by
  rw [hm] at hf
  have a1 := Rat.mul_nonneg (show 0 ≤ 1 - t by grind) hs
  have a2 := Rat.mul_nonneg (show 0 ≤ t by grind) hz
  have b1 : (1 - t) * f s = 0 := by grind
  have b2 : t * f z = 0 := by grind
  constructor
  · rcases (show f s = 0 ∨ 0 < f s by grind) with c | c
    · exact c
    · have := Rat.mul_pos (show 0 < 1 - t by grind) c
      grind
  · rcases (show f z = 0 ∨ 0 < f z by grind) with c | c
    · exact c
    · have := Rat.mul_pos t0 c
      grind
end Op
namespace Op
open Fr
def emitC (e : Edg) (x : Ray × Ray) : List Ray := (if roomR e x.1 * roomR e x.2 < 0 then [crossP e x.1 x.2] else []) ++ (if 0 ≤ roomR e x.2 then [x.2] else [])
def cutN (e : Edg) (ps : List Ray) : List Ray := (edgesR ps).flatMap (emitC e)
theorem emit_mem {e : Edg} {x : Ray × Ray} {z : Ray} : z ∈ emitC e x ↔ (roomR e x.1 * roomR e x.2 < 0 ∧ z = crossP e x.1 x.2) ∨ (0 ≤ roomR e x.2 ∧ z = x.2) := by
  unfold emitC
  by_cases c1 : roomR e x.1 * roomR e x.2 < 0 <;> by_cases c2 : 0 ≤ roomR e x.2 <;> simp [c1, c2]
theorem cut_mem {e : Edg} {ps : List Ray} {z : Ray} : z ∈ cutN e ps ↔ (z ∈ ps ∧ 0 ≤ roomR e z) ∨ ∃ x ∈ edgesR ps, roomR e x.1 * roomR e x.2 < 0 ∧ z = crossP e x.1 x.2 := by
  unfold cutN
  rw [List.mem_flatMap]
  constructor
  · rintro ⟨x, hx, hz⟩
    rcases emit_mem.mp hz with ⟨h1, h2⟩ | ⟨h1, h2⟩
    · exact .inr ⟨x, hx, h1, h2⟩
    · rw [h2]; exact .inl ⟨(edges_mem hx).2, h1⟩
  · rintro (⟨h1, h2⟩ | ⟨x, hx, h1, h2⟩)
    · obtain ⟨p, hp⟩ := edges_into h1
      exact ⟨(p, z), hp, emit_mem.mpr (.inr ⟨h2, rfl⟩)⟩
    · exact ⟨x, hx, emit_mem.mpr (.inl ⟨h1, h2⟩)⟩
theorem cut_room {e : Edg} {ps : List Ray} {z : Ray} (h : z ∈ cutN e ps) : 0 ≤ roomR e z := by
  rcases cut_mem.mp h with ⟨_, h⟩ | ⟨x, _, h1, rfl⟩
  · exact h
  · rw [cross_room h1]; exact Rat.le_refl
theorem pairsF_snd (l : Ray) : ∀ ps : List Ray, (pairsF l ps).map Prod.snd = ps
  | [] => rfl
  | q :: r => by show q :: (pairsF q r).map Prod.snd = q :: r; rw [pairsF_snd q r]
theorem edges_snd (ps : List Ray) : (edgesR ps).map Prod.snd = ps := by
  unfold edgesR
  cases e : ps.getLast? with
  | none => rw [List.getLast?_eq_none_iff] at e; rw [e]; rfl
  | some l => exact pairsF_snd l ps
theorem mix_ne1 {t : Rat} {p q : Ray} (h : p ≠ q) (t0 : 0 < t) : mixR t p q ≠ p := fun e => by
  apply h
  have h1 := congrArg Prod.fst e
  have h2 := congrArg Prod.snd e
  unfold mixR at h1 h2
  dsimp only at h1 h2
  have g1 : t * (q.1 - p.1) = 0 := by grind
  have g2 : t * (q.2 - p.2) = 0 := by grind
  exact Prod.ext (by grind) (by grind)
theorem mix_ne2 {t : Rat} {p q : Ray} (h : p ≠ q) (t1 : t < 1) : mixR t p q ≠ q := fun e => by
  apply h
  have h1 := congrArg Prod.fst e
  have h2 := congrArg Prod.snd e
  unfold mixR at h1 h2
  dsimp only at h1 h2
  have g1 : (1 - t) * (q.1 - p.1) = 0 := by grind
  have g2 : (1 - t) * (q.2 - p.2) = 0 := by grind
  exact Prod.ext (by grind) (by grind)
theorem turn_on (p q : Ray) (t : Rat) : turnR p q (mixR t p q) = 0 := by rw [turn_mix, turn_pqp, turn_pqq]; grind
section
variable {e : Edg} {ps : List Ray} (h : ES ps) (h3 : 3 ≤ ps.length)
include h h3
theorem cross_off {x : Ray × Ray} (hx : x ∈ edgesR ps) (hc : roomR e x.1 * roomR e x.2 < 0) {z : Ray} (hz : z ∈ ps) : crossP e x.1 x.2 ≠ z := fun ez => by
  have t := cutT_in hc
  have n := edges_ne h.nd (by omega) hx
  have h0 : turnR x.1 x.2 z = 0 := by rw [← ez]; exact turn_on _ _ _
  by_cases c1 : z = x.1
  · exact mix_ne1 n t.1 (ez.trans c1)
  · by_cases c2 : z = x.2
    · exact mix_ne2 n t.2 (ez.trans c2)
    · have := h.st x hx z hz c1 c2
      grind
theorem cross_two {x y : Ray × Ray} (hx : x ∈ edgesR ps) (hy : y ∈ edgesR ps) (n : x ≠ y) (hc : roomR e x.1 * roomR e x.2 < 0) (hd : roomR e y.1 * roomR e y.2 < 0) : crossP e x.1 x.2 ≠ crossP e y.1 y.2 := fun ez => by
  have t := cutT_in hd
  have h1 : 0 < turnR x.1 x.2 (crossP e y.1 y.2) := h.mix (p := x.1) (q := x.2) (a := y.1) (b := y.2) h3 hx hy (fun z => n z.symm) t.1 t.2
  rw [← ez] at h1
  have h2 : turnR x.1 x.2 (crossP e x.1 x.2) = 0 := turn_on _ _ _
  grind
theorem cut_nodup : (cutN e ps).Nodup := by
  unfold cutN
  show List.Pairwise _ _
  rw [List.pairwise_flatMap]
  refine ⟨fun x hx => ?_, ?_⟩
  · unfold emitC
    by_cases c1 : roomR e x.1 * roomR e x.2 < 0
    · by_cases c2 : 0 ≤ roomR e x.2
      · rw [if_pos c1, if_pos c2]
        refine List.Pairwise.cons (fun z hz => ?_) (List.pairwise_singleton _ _)
        rw [List.mem_singleton.mp hz]
        exact cross_off h h3 hx c1 (edges_mem hx).2
      · rw [if_pos c1, if_neg c2]
        exact List.pairwise_singleton _ _
    · by_cases c2 : 0 ≤ roomR e x.2
      · rw [if_neg c1, if_pos c2]
        exact List.pairwise_singleton _ _
      · rw [if_neg c1, if_neg c2]
        exact List.Pairwise.nil
  · have nd := h.nd
    rw [← edges_snd ps] at nd
    have pw : (edgesR ps).Pairwise (fun a b => a.2 ≠ b.2) := List.pairwise_map.mp nd
    refine List.Pairwise.imp_of_mem (fun {a b} ha hb nab => ?_) pw
    intro x hx y hy exy
    have nab' : a ≠ b := fun z => nab (by rw [z])
    rcases emit_mem.mp hx with ⟨c1, rfl⟩ | ⟨c1, rfl⟩ <;> rcases emit_mem.mp hy with ⟨c2, e2⟩ | ⟨c2, e2⟩
    · exact cross_two h h3 ha hb nab' c1 c2 (exy.trans e2)
    · exact cross_off h h3 ha c1 (edges_mem hb).2 (exy.trans e2)
    · exact cross_off h h3 hb c2 (edges_mem ha).2 (e2.symm.trans exy.symm)
    · exact nab (exy.trans e2)
end
inductive NewE (e : Edg) (ps : List Ray) (s t : Ray) : Prop
  | old (p q : Ray) (k : Rat) : (p, q) ∈ edgesR ps → 0 < k → (∀ z, turnR s t z = k * turnR p q z) → (s = p ∨ (s = crossP e p q ∧ roomR e p < 0)) → (t = q ∨ (t = crossP e p q ∧ roomR e q < 0)) → (roomR e p * roomR e q < 0 → s = crossP e p q ∨ t = crossP e p q) → NewE e ps s t
  | cut (p q : Ray) (k : Rat) : roomR e s = 0 → roomR e t = 0 → (p, q) ∈ edgesR ps → roomR e q < 0 → 0 < k → (∀ z, turnR s q z = k * turnR p q z) → NewE e ps s t
def RelC (e : Edg) (ps : List Ray) (s l : Ray) : Prop := (0 ≤ roomR e l ∧ s = l) ∨ (roomR e l < 0 ∧ roomR e s = 0 ∧ ∃ p q k, (p, q) ∈ edgesR ps ∧ roomR e q < 0 ∧ 0 < k ∧ ∀ z, turnR s q z = k * turnR p q z)
theorem emit_cases (e : Edg) (l q : Ray) :
    (0 ≤ roomR e l ∧ 0 ≤ roomR e q ∧ ¬ roomR e l * roomR e q < 0 ∧ emitC e (l, q) = [q]) ∨ (0 < roomR e l ∧ roomR e q < 0 ∧ roomR e l * roomR e q < 0 ∧ emitC e (l, q) = [crossP e l q]) ∨ (roomR e l = 0 ∧ roomR e q < 0 ∧ emitC e (l, q) = []) ∨
    (roomR e l < 0 ∧ 0 < roomR e q ∧ roomR e l * roomR e q < 0 ∧ emitC e (l, q) = [crossP e l q, q]) ∨ (roomR e l < 0 ∧ roomR e q = 0 ∧ emitC e (l, q) = [q]) ∨ (roomR e l < 0 ∧ roomR e q < 0 ∧ emitC e (l, q) = []) := by
  unfold emitC
  dsimp only
  generalize roomR e l = a
  generalize roomR e q = b
  rcases (show a < 0 ∨ a = 0 ∨ 0 < a by grind) with ha | ha | ha <;> rcases (show b < 0 ∨ b = 0 ∨ 0 < b by grind) with hb | hb | hb
  · have n : ¬ a * b < 0 := fun z => by rcases mulneg z with h | h <;> grind
    exact .inr (.inr (.inr (.inr (.inr ⟨ha, hb, by rw [if_neg n, if_neg (by grind)]; rfl⟩))))
  · have n : ¬ a * b < 0 := fun z => by rcases mulneg z with h | h <;> grind
    exact .inr (.inr (.inr (.inr (.inl ⟨ha, hb, by rw [if_neg n, if_pos (by grind)]; rfl⟩))))
  · have n := negmul ha hb
    exact .inr (.inr (.inr (.inl ⟨ha, hb, n, by rw [if_pos n, if_pos (by grind)]; rfl⟩)))
  · have n : ¬ a * b < 0 := fun z => by rcases mulneg z with h | h <;> grind
    exact .inr (.inr (.inl ⟨ha, hb, by rw [if_neg n, if_neg (by grind)]; rfl⟩))
  · have n : ¬ a * b < 0 := fun z => by rcases mulneg z with h | h <;> grind
    exact .inl ⟨by grind, by grind, n, by rw [if_neg n, if_pos (by grind)]; rfl⟩
  · have n : ¬ a * b < 0 := fun z => by rcases mulneg z with h | h <;> grind
    exact .inl ⟨by grind, by grind, n, by rw [if_neg n, if_pos (by grind)]; rfl⟩
  · have n : a * b < 0 := by have := negmul hb ha; grind
    exact .inr (.inl ⟨ha, hb, n, by rw [if_pos n, if_neg (by grind)]; rfl⟩)
  · have n : ¬ a * b < 0 := fun z => by rcases mulneg z with h | h <;> grind
    exact .inl ⟨by grind, by grind, n, by rw [if_neg n, if_pos (by grind)]; rfl⟩
  · have n : ¬ a * b < 0 := fun z => by rcases mulneg z with h | h <;> grind
    exact .inl ⟨by grind, by grind, n, by rw [if_neg n, if_pos (by grind)]; rfl⟩
theorem chain_ok {e : Edg} {ps : List Ray} : ∀ (qs : List Ray) (l s : Ray), (∀ x ∈ pairsF l qs, x ∈ edgesR ps) → RelC e ps s l → ∀ y ∈ pairsF s ((pairsF l qs).flatMap (emitC e)), NewE e ps y.1 y.2
  | [], _, _, _, _, _, h => nomatch h
  | q :: r, l, s, hE, hR, y, hy => by
    have hlq : (l, q) ∈ edgesR ps := hE (l, q) (by simp [pairsF])
    have hE' : ∀ x ∈ pairsF q r, x ∈ edgesR ps := fun x hx => hE x (List.mem_cons_of_mem _ hx)
    have hy : y ∈ pairsF s (emitC e (l, q) ++ (pairsF q r).flatMap (emitC e)) := hy
    have ih := fun s' (hr : RelC e ps s' q) => chain_ok r q s' hE' hr y
    rcases emit_cases e l q with ⟨a, b, n, em⟩ | ⟨a, b, n, em⟩ | ⟨a, b, em⟩ | ⟨a, b, n, em⟩ | ⟨a, b, em⟩ | ⟨a, b, em⟩
    · have hs : s = l := by
        rcases hR with ⟨_, h⟩ | ⟨h, _⟩
        · exact h
        · exfalso; grind
      rw [em] at hy
      rcases List.mem_cons.mp (show y ∈ (s, q) :: pairsF q ((pairsF q r).flatMap (emitC e)) from hy) with rfl | hy
      · exact .old l q 1 hlq (by decide) (fun z => by dsimp only; rw [hs]; grind) (.inl hs) (.inl rfl) (fun z => absurd z n)
      · exact ih q (.inl ⟨b, rfl⟩) hy
    · have hs : s = l := by
        rcases hR with ⟨_, h⟩ | ⟨h, _⟩
        · exact h
        · exfalso; grind
      have t := cutT_in n
      rw [em] at hy
      rcases List.mem_cons.mp (show y ∈ (s, crossP e l q) :: pairsF (crossP e l q) ((pairsF q r).flatMap (emitC e)) from hy) with rfl | hy
      · exact .old l q (cutT e l q) hlq t.1 (fun z => by dsimp only; rw [hs]; exact turn_mix2 _ _ _ _) (.inl hs) (.inr ⟨rfl, b⟩) (fun _ => .inr rfl)
      · exact ih _ (.inr ⟨b, cross_room n, l, q, 1 - cutT e l q, hlq, b, by grind, fun z => turn_mix1 _ _ _ _⟩) hy
    · have hs : s = l := by
        rcases hR with ⟨_, h⟩ | ⟨h, _⟩
        · exact h
        · exfalso; grind
      rw [em] at hy
      exact ih s (.inr ⟨b, by rw [hs]; exact a, l, q, 1, hlq, b, by decide, fun z => by rw [hs]; grind⟩) hy
    · obtain ⟨h0, p', q', k', g1, g2, g3, g4⟩ : roomR e s = 0 ∧ ∃ p q k, (p, q) ∈ edgesR ps ∧ roomR e q < 0 ∧ 0 < k ∧ ∀ z, turnR s q z = k * turnR p q z := by
        rcases hR with ⟨h, _⟩ | ⟨_, h⟩
        · exfalso; grind
        · exact h
      have t := cutT_in n
      rw [em] at hy
      rcases List.mem_cons.mp (show y ∈ (s, crossP e l q) :: (crossP e l q, q) :: pairsF q ((pairsF q r).flatMap (emitC e)) from hy) with rfl | hy
      · exact .cut p' q' k' h0 (cross_room n) g1 g2 g3 g4
      · rcases List.mem_cons.mp hy with rfl | hy
        · exact .old l q (1 - cutT e l q) hlq (by grind) (fun z => turn_mix1 _ _ _ _) (.inr ⟨rfl, a⟩) (.inl rfl) (fun _ => .inl rfl)
        · exact ih q (.inl ⟨by grind, rfl⟩) hy
    · obtain ⟨h0, p', q', k', g1, g2, g3, g4⟩ : roomR e s = 0 ∧ ∃ p q k, (p, q) ∈ edgesR ps ∧ roomR e q < 0 ∧ 0 < k ∧ ∀ z, turnR s q z = k * turnR p q z := by
        rcases hR with ⟨h, _⟩ | ⟨_, h⟩
        · exfalso; grind
        · exact h
      rw [em] at hy
      rcases List.mem_cons.mp (show y ∈ (s, q) :: pairsF q ((pairsF q r).flatMap (emitC e)) from hy) with rfl | hy
      · exact .cut p' q' k' h0 b g1 g2 g3 g4
      · exact ih q (.inl ⟨by grind, rfl⟩) hy
    · have h0 : roomR e s = 0 ∧ ∃ p q k, (p, q) ∈ edgesR ps ∧ roomR e q < 0 ∧ 0 < k ∧ ∀ z, turnR s q z = k * turnR p q z := by
        rcases hR with ⟨h, _⟩ | ⟨_, h⟩
        · exfalso; grind
        · exact h
      rw [em] at hy
      exact ih s (.inr ⟨b, h0⟩) hy
theorem snoc_ind {P : List Ray → Prop} (h0 : P []) (h1 : ∀ xs x, P xs → P (xs ++ [x])) (l : List Ray) : P l := by
  have : ∀ n (l : List Ray), l.length = n → P l := by
    intro n
    induction n with
    | zero => intro l hl; rw [List.length_eq_zero_iff.mp hl]; exact h0
    | succ n ih =>
      intro l hl
      rcases List.eq_nil_or_concat l with rfl | ⟨xs, x, rfl⟩
      · simp at hl
      · have := h1 xs x (ih xs (by simp at hl; exact hl))
        simpa using this
  exact this _ l rfl
theorem chain_end {e : Edg} {ps : List Ray} (l : Ray) (qs : List Ray) (hE : ∀ x ∈ pairsF l qs, x ∈ edgesR ps) (v : Ray) (hv : ((pairsF l qs).flatMap (emitC e)).getLast? = some v) : RelC e ps v ((l :: qs).getLast (by simp)) := by
  induction qs using snoc_ind generalizing v with
  | h0 => cases hv
  | h1 xs q ih =>
    have e1 : (l :: (xs ++ [q])).getLast (by simp) = q := by
      have h1 : (l :: (xs ++ [q])).getLast? = some q := List.getLast?_concat (l := l :: xs) (a := q)
      rw [List.getLast?_eq_some_getLast (by simp)] at h1
      exact Option.some.inj h1
    rw [e1]
    rw [pairsF_snoc] at hE hv
    generalize hp : (l :: xs).getLast (by simp) = p at hE hv
    have hpq : (p, q) ∈ edgesR ps := hE _ (by simp)
    have ih' := ih (fun x hx => hE x (List.mem_append_left _ hx))
    rw [hp] at ih'
    rw [List.flatMap_append, show ([(p, q)] : List (Ray × Ray)).flatMap (emitC e) = emitC e (p, q) by simp] at hv
    rcases emit_cases e p q with ⟨a, b, n, em⟩ | ⟨a, b, n, em⟩ | ⟨a, b, em⟩ | ⟨a, b, n, em⟩ | ⟨a, b, em⟩ | ⟨a, b, em⟩
    · rw [em, List.getLast?_concat] at hv
      cases hv
      exact .inl ⟨b, rfl⟩
    · rw [em, List.getLast?_concat] at hv
      cases hv
      exact .inr ⟨b, cross_room n, p, q, 1 - cutT e p q, hpq, b, by have := (cutT_in n).2; grind, fun z => turn_mix1 _ _ _ _⟩
    · rw [em, List.append_nil] at hv
      rcases ih' v hv with ⟨_, h⟩ | ⟨h, _⟩
      · exact .inr ⟨b, by rw [h]; exact a, p, q, 1, hpq, b, by decide, fun z => by rw [h]; grind⟩
      · exfalso; grind
    · rw [em, show ((pairsF l xs).flatMap (emitC e)) ++ [crossP e p q, q] = ((pairsF l xs).flatMap (emitC e) ++ [crossP e p q]) ++ [q] by simp, List.getLast?_concat] at hv
      cases hv
      exact .inl ⟨by grind, rfl⟩
    · rw [em, List.getLast?_concat] at hv
      cases hv
      exact .inl ⟨by grind, rfl⟩
    · rw [em, List.append_nil] at hv
      rcases ih' v hv with ⟨h, _⟩ | ⟨_, h⟩
      · exfalso; grind
      · exact .inr ⟨b, h⟩
theorem cut_edges {e : Edg} {ps : List Ray} {y : Ray × Ray} (hy : y ∈ edgesR (cutN e ps)) : NewE e ps y.1 y.2 := by
  cases hp : ps.getLast? with
  | none =>
    rw [List.getLast?_eq_none_iff] at hp
    subst hp
    cases hy
  | some l =>
    have eE : edgesR ps = pairsF l ps := by unfold edgesR; rw [hp]
    have eC : cutN e ps = (pairsF l ps).flatMap (emitC e) := by unfold cutN; rw [eE]
    unfold edgesR at hy
    cases hv : (cutN e ps).getLast? with
    | none => rw [hv] at hy; cases hy
    | some v =>
      rw [hv] at hy
      dsimp only at hy
      rw [eC] at hy hv
      have h1 := chain_end (ps := ps) l ps (fun x hx => by rw [eE]; exact hx) v hv
      have e2 : (l :: ps).getLast (by simp) = l := by
        cases ps with
        | nil => cases hp
        | cons z r =>
          rw [List.getLast_cons (by simp)]
          have := List.getLast?_eq_some_getLast (l := z :: r) (by simp)
          rw [this] at hp
          exact Option.some.inj hp
      rw [e2] at h1
      exact chain_ok ps l v (fun x hx => by rw [eE]; exact hx) h1 y hy
end Op
namespace Op
open Fr
section
variable {e : Edg} {ps : List Ray} (h : ES ps) (h3 : 3 ≤ ps.length)
include h h3
theorem cut_ge {x : Ray × Ray} (hx : x ∈ edgesR ps) {z : Ray} (hz : z ∈ cutN e ps) : 0 ≤ turnR x.1 x.2 z := by
  rcases cut_mem.mp hz with ⟨h1, _⟩ | ⟨y, hy, hc, rfl⟩
  · exact h.ge hx h1
  · have t := cutT_in hc
    unfold crossP
    rw [turn_mix]
    have a := h.ge hx (edges_mem hy).1
    have b := h.ge hx (edges_mem hy).2
    have x1 := Rat.mul_nonneg (show 0 ≤ 1 - cutT e y.1 y.2 by grind) a
    have x2 := Rat.mul_nonneg (show 0 ≤ cutT e y.1 y.2 by grind) b
    grind
theorem line_three (he : e.1 ≠ 0 ∨ e.2.1 ≠ 0) {s z m : Ray} (hs : s ∈ cutN e ps) (hz : z ∈ cutN e ps) (hm : m ∈ cutN e ps) (rs : roomR e s = 0) (rz : roomR e z = 0) (rm : roomR e m = 0) (nsz : s ≠ z) {t : Rat} (t0 : 0 < t) (t1 : t < 1) (em : m = mixR t s z) : False := by
  obtain ⟨k, k0, hk⟩ := turn_line rs rz nsz he
  -- the edge that leads to m, or on which m lies
  have main : ∀ x ∈ edgesR ps, turnR x.1 x.2 m = 0 → roomR e x.1 = 0 ∧ roomR e x.2 = 0 := by
    intro x hx h0
    have a1 := cut_ge h h3 hx hs
    have a2 := cut_ge h h3 hx hz
    have hb := between (f := turnR x.1 x.2) (t := t) (s := s) (z := z) (m := m) (by rw [em]; exact turn_mix _ _ _ _ _) t0 t1 a1 a2 h0
    have n := edges_ne h.nd (by omega) hx
    have l1 : turnR s z x.1 = 0 := by
      have q1 := hb.1
      have q2 := hb.2
      unfold turnR at q1 q2 ⊢
      have nn : x.2.1 - x.1.1 ≠ 0 ∨ x.2.2 - x.1.2 ≠ 0 := by
        rcases (show x.2.1 - x.1.1 = 0 ∨ x.2.1 - x.1.1 ≠ 0 by grind) with c1 | c1
        · rcases (show x.2.2 - x.1.2 = 0 ∨ x.2.2 - x.1.2 ≠ 0 by grind) with c2 | c2
          · exact absurd (Prod.ext (by grind) (by grind)) n
          · exact .inr c2
        · exact .inl c1
      rcases nn with nn | nn <;> grind
    have l2 : turnR s z x.2 = 0 := by
      have q1 := hb.1
      have q2 := hb.2
      unfold turnR at q1 q2 ⊢
      have nn : x.2.1 - x.1.1 ≠ 0 ∨ x.2.2 - x.1.2 ≠ 0 := by
        rcases (show x.2.1 - x.1.1 = 0 ∨ x.2.1 - x.1.1 ≠ 0 by grind) with c1 | c1
        · rcases (show x.2.2 - x.1.2 = 0 ∨ x.2.2 - x.1.2 ≠ 0 by grind) with c2 | c2
          · exact absurd (Prod.ext (by grind) (by grind)) n
          · exact .inr c2
        · exact .inl c1
      rcases nn with nn | nn <;> grind
    rw [hk] at l1 l2
    constructor
    · rcases (show roomR e x.1 = 0 ∨ roomR e x.1 ≠ 0 by grind) with c | c
      · exact c
      · exfalso; grind
    · rcases (show roomR e x.2 = 0 ∨ roomR e x.2 ≠ 0 by grind) with c | c
      · exact c
      · exfalso; grind
  rcases cut_mem.mp hm with ⟨h1, _⟩ | ⟨y, hy, hc, e2⟩
  · obtain ⟨p, hp⟩ := edges_into h1
    obtain ⟨q, hq⟩ := edges_from h1
    have r1 := (main (p, m) hp (by dsimp only; exact turn_pqq _ _)).1
    have r2 := (main (m, q) hq (by dsimp only; exact turn_pqp _ _)).2
    dsimp only at r1 r2
    have nm := edges_ne h.nd (by omega) hq
    have np := edges_ne h.nd (by omega) hp
    dsimp only at nm np
    have npq : p ≠ q := fun z => h.back h3 hp (by rw [z]; exact hq)
    have st := h.st (p, m) hp q (edges_mem hq).2 (fun z => npq z.symm) (fun z => nm z.symm)
    dsimp only at st
    obtain ⟨k2, k20, hk2⟩ := turn_line r1 rm np he
    rw [hk2, r2] at st
    grind
  · have r := main y hy (by rw [e2]; exact turn_on _ _ _)
    rw [r.1, r.2] at hc
    grind
end
theorem line_par {s z m : Ray} (nsz : s ≠ z) (h0 : turnR s z m = 0) : ∃ t, m = mixR t s z := by
  obtain ⟨s1, s2⟩ := s
  obtain ⟨z1, z2⟩ := z
  obtain ⟨m1, m2⟩ := m
  unfold turnR at h0
  unfold mixR
  dsimp only at h0 ⊢
  rcases (show z1 - s1 = 0 ∨ z1 - s1 ≠ 0 by grind) with c1 | c1
  · rcases (show z2 - s2 = 0 ∨ z2 - s2 ≠ 0 by grind) with c2 | c2
    · exact absurd (show ((s1, s2) : Ray) = (z1, z2) by rw [show z1 = s1 by grind, show z2 = s2 by grind]) nsz
    · refine ⟨(m2 - s2) / (z2 - s2), ?_⟩
      have g1 : m1 = s1 := by grind
      rw [g1]
      refine Prod.ext ?_ ?_ <;> dsimp only <;> grind
  · refine ⟨(m1 - s1) / (z1 - s1), ?_⟩
    refine Prod.ext ?_ ?_ <;> dsimp only
    · grind
    · have : (m2 - s2) * (z1 - s1) = (z2 - s2) * (m1 - s1) := by grind
      have g : (m1 - s1) / (z1 - s1) * (z1 - s1) = m1 - s1 := by grind
      grind
theorem divmul {a b : Rat} (hb : 0 < b) : (a / b) * b = a := by grind
theorem divpos {a b : Rat} (ha : 0 < a) (hb : 0 < b) : 0 < a / b := by
  have g := divmul (a := a) hb
  generalize a / b = c at g
  rcases (show c ≤ 0 ∨ 0 < c by grind) with z | z
  · have := Rat.mul_nonneg (show 0 ≤ -c by grind) (show 0 ≤ b by grind)
    grind
  · exact z
theorem divlt1 {a b : Rat} (hab : a < b) (hb : 0 < b) : a / b < 1 := by
  have g := divmul (a := a) hb
  generalize a / b = c at g
  rcases (show 1 ≤ c ∨ c < 1 by grind) with z | z
  · have := Rat.mul_nonneg (show 0 ≤ c - 1 by grind) (show 0 ≤ b by grind)
    grind
  · exact z
theorem mix_inv1 {s z : Ray} {t u : Rat} (g : u * (1 - t) = -t) : s = mixR u (mixR t s z) z := by
  unfold mixR
  refine Prod.ext ?_ ?_ <;> dsimp only <;> grind
theorem mix_inv2 {s z : Ray} {t u : Rat} (g : u * t = 1) : z = mixR u s (mixR t s z) := by
  unfold mixR
  refine Prod.ext ?_ ?_ <;> dsimp only <;> grind
theorem mix_zero (s z : Ray) : mixR 0 s z = s := by unfold mixR; exact Prod.ext (by dsimp only; grind) (by dsimp only; grind)
theorem mix_one (s z : Ray) : mixR 1 s z = z := by unfold mixR; exact Prod.ext (by dsimp only; grind) (by dsimp only; grind)
theorem on_line_mix {s z m : Ray} (nsz : s ≠ z) (nsm : s ≠ m) (nzm : z ≠ m) (h0 : turnR s z m = 0) : (∃ t, 0 < t ∧ t < 1 ∧ m = mixR t s z) ∨ (∃ t, 0 < t ∧ t < 1 ∧ s = mixR t m z) ∨ (∃ t, 0 < t ∧ t < 1 ∧ z = mixR t s m) := by
  obtain ⟨t, ht⟩ := line_par nsz h0
  have t0 : t ≠ 0 := fun c => nsm (by rw [ht, c, mix_zero])
  have t1 : t ≠ 1 := fun c => nzm (by rw [ht, c, mix_one])
  clear nsz nsm nzm h0
  rcases (show t < 0 ∨ (0 < t ∧ t < 1) ∨ 1 < t by grind) with c | c | c
  · exact .inr (.inl ⟨(-t) / (1 - t), divpos (by grind) (by grind), divlt1 (by grind) (by grind), by rw [ht]; exact mix_inv1 (divmul (by grind))⟩)
  · exact .inl ⟨t, c.1, c.2, ht⟩
  · exact .inr (.inr ⟨1 / t, divpos (by grind) (by grind), divlt1 (by grind) (by grind), by rw [ht]; exact mix_inv2 (divmul (by grind))⟩)
section
variable {e : Edg} {ps : List Ray} (h : ES ps) (h3 : 3 ≤ ps.length)
include h h3
theorem cut_two (he : e.1 ≠ 0 ∨ e.2.1 ≠ 0) {s z m : Ray} (hs : s ∈ cutN e ps) (hz : z ∈ cutN e ps) (hm : m ∈ cutN e ps) (rs : roomR e s = 0) (rz : roomR e z = 0) (nsz : s ≠ z) (nsm : m ≠ s) (nzm : m ≠ z) : 0 < roomR e m := by
  rcases (show roomR e m = 0 ∨ 0 < roomR e m by have := cut_room hm; grind) with c | c
  · exfalso
    obtain ⟨k, k0, hk⟩ := turn_line rs rz nsz he
    have h0 : turnR s z m = 0 := by rw [hk, c]; grind
    rcases on_line_mix nsz (Ne.symm nsm) (Ne.symm nzm) h0 with ⟨t, t0, t1, em⟩ | ⟨t, t0, t1, em⟩ | ⟨t, t0, t1, em⟩
    · exact line_three h h3 he hs hz hm rs rz c nsz t0 t1 em
    · exact line_three h h3 he hm hz hs c rz rs nzm t0 t1 em
    · exact line_three h h3 he hs hm hz rs c rz (Ne.symm nsm) t0 t1 em
  · exact c
theorem cut_ES (he : e.1 ≠ 0 ∨ e.2.1 ≠ 0) (h2 : 2 ≤ (cutN e ps).length) : ES (cutN e ps) := by
  have nd := cut_nodup (e := e) h h3
  refine ⟨nd, fun y hy z hz z1 z2 => ?_⟩
  have nst := edges_ne nd h2 hy
  obtain ⟨s, t⟩ := y
  have ms := (edges_mem hy).1
  have mt := (edges_mem hy).2
  have ny := cut_edges hy
  dsimp only at nst ms mt ny z1 z2 ⊢
  cases ny with
  | old p q k hpq k0 hk hs ht hx =>
    rw [hk]
    have key : 0 < turnR p q z := by
      rcases cut_mem.mp hz with ⟨hzp, rz⟩ | ⟨y, hy', hc, ez⟩
      · refine h.st (p, q) hpq z hzp ?_ ?_
        · intro c
          dsimp only at c
          rcases hs with hs | ⟨_, hs⟩
          · exact z1 (c.trans hs.symm)
          · rw [c] at rz; grind
        · intro c
          dsimp only at c
          rcases ht with ht | ⟨_, ht⟩
          · exact z2 (c.trans ht.symm)
          · rw [c] at rz; grind
      · by_cases c : y = (p, q)
        · subst c
          rcases hx hc with hx | hx
          · exact absurd (ez.trans hx.symm) z1
          · exact absurd (ez.trans hx.symm) z2
        · rw [ez]
          have t' := cutT_in hc
          exact h.mix h3 hpq (a := y.1) (b := y.2) hy' c t'.1 t'.2
    exact Rat.mul_pos k0 key
  | cut p q k rs rt hpq rq k0 hk =>
    obtain ⟨c, c0, hc⟩ := turn_line rs rt nst he
    have g1 : turnR s t q = c * roomR e q := hc q
    have g2 : turnR s q t = k * turnR p q t := hk t
    have g3 := cut_ge h h3 hpq mt
    dsimp only at g3
    have g4 : turnR s q t = - turnR s t q := turn_swap s t q
    have g5 := Rat.mul_nonneg (show 0 ≤ k by grind) g3
    have cp : 0 < c := by
      rcases (show c < 0 ∨ 0 < c by grind) with cc | cc
      · have := Rat.mul_pos (show 0 < -c by grind) (show 0 < - roomR e q by grind)
        grind
      · exact cc
    rw [hc]
    exact Rat.mul_pos cp (cut_two h h3 he ms mt hz rs rt nst z1 z2)
theorem cut_len {w : Ray} (hw : w ∈ ps) (rw' : 0 < roomR e w) : 3 ≤ (cutN e ps).length := by
  obtain ⟨p, hp⟩ := edges_into hw
  obtain ⟨q, hq⟩ := edges_from hw
  have np := edges_ne h.nd (by omega) hp
  have nq := edges_ne h.nd (by omega) hq
  dsimp only at np nq
  have npq : p ≠ q := fun z => h.back h3 hp (by rw [z]; exact hq)
  have ww : w ∈ cutN e ps := cut_mem.mpr (.inl ⟨hw, by grind⟩)
  -- a ray on the edge to w, a ray on the edge from w
  obtain ⟨a, ha, na, ta, da⟩ : ∃ a ∈ cutN e ps, a ≠ w ∧ turnR p w a = 0 ∧ 0 < turnR w q a := by
    have hpq : 0 < turnR w q p := h.st (w, q) hq p (edges_mem hp).1 np npq
    rcases (show 0 ≤ roomR e p ∨ roomR e p < 0 by grind) with c | c
    · exact ⟨p, cut_mem.mpr (.inl ⟨(edges_mem hp).1, c⟩), np, turn_pqp _ _, hpq⟩
    · have n := negmul c rw'
      have t := cutT_in n
      refine ⟨crossP e p w, cut_mem.mpr (.inr ⟨(p, w), hp, n, rfl⟩), mix_ne2 np t.2, turn_on _ _ _, ?_⟩
      unfold crossP
      rw [turn_mix, turn_pqp]
      have := Rat.mul_pos (show 0 < 1 - cutT e p w by grind) hpq
      grind
  obtain ⟨b, hb, nb, tb⟩ : ∃ b ∈ cutN e ps, b ≠ w ∧ turnR w q b = 0 := by
    rcases (show 0 ≤ roomR e q ∨ roomR e q < 0 by grind) with c | c
    · exact ⟨q, cut_mem.mpr (.inl ⟨(edges_mem hq).2, c⟩), Ne.symm nq, turn_pqq _ _⟩
    · have n : roomR e w * roomR e q < 0 := by have := negmul c rw'; grind
      have t := cutT_in n
      exact ⟨crossP e w q, cut_mem.mpr (.inr ⟨(w, q), hq, n, rfl⟩), mix_ne1 nq t.1, turn_on _ _ _⟩
  have nab : a ≠ b := fun z => by rw [z, tb] at da; grind
  have nd := cut_nodup (e := e) h h3
  generalize cutN e ps = cs at *
  match cs, nd, ww, ha, hb with
  | [], _, h1, _, _ => cases h1
  | [x], _, h1, h2, h3 =>
    exfalso
    exact na ((List.mem_singleton.mp h2).trans (List.mem_singleton.mp h1).symm)
  | [x, y], _, h1, h2, h3 =>
    exfalso
    simp only [List.mem_cons, List.not_mem_nil, or_false] at h1 h2 h3
    rcases h1 with h1 | h1 <;> rcases h2 with h2 | h2 <;> rcases h3 with h3 | h3 <;> first
      | exact na (h2.trans h1.symm)
      | exact nb (h3.trans h1.symm)
      | exact nab (h2.trans h3.symm)
  | _ :: _ :: _ :: _, _, _, _, _ => simp
end
end Op
namespace Op
open Fr
structure Aff (f : Ray → Rat) : Prop where
  ex : ∃ a b c : Rat, ∀ r : Ray, f r = a * r.1 + b * r.2 + c
theorem aff_room (e : Edg) : Aff (roomR e) := ⟨e.1, e.2.1, e.2.2, fun _ => rfl⟩
theorem aff_turn (p q : Ray) : Aff (turnR p q) := ⟨-(q.2 - p.2), q.1 - p.1, (q.2 - p.2) * p.1 - (q.1 - p.1) * p.2, fun r => by unfold turnR; grind⟩
structure Mean (a b c x : Ray) : Prop where
  ex : ∃ u v w : Rat, 0 ≤ u ∧ 0 ≤ v ∧ 0 ≤ w ∧ u + v + w = 1 ∧ x.1 = u * a.1 + v * b.1 + w * c.1 ∧ x.2 = u * a.2 + v * b.2 + w * c.2
theorem Mean.aff {a b c x : Ray} {f : Ray → Rat} (hf : Aff f) : ∀ {u v w : Rat}, u + v + w = 1 → x.1 = u * a.1 + v * b.1 + w * c.1 → x.2 = u * a.2 + v * b.2 + w * c.2 → f x = u * f a + v * f b + w * f c := by
  obtain ⟨A, B, C, h⟩ := hf.ex
  intro u v w h1 h2 h3
  rw [h x, h a, h b, h c, h2, h3]
  grind
theorem nn3 {u v w a b c : Rat} (hu : 0 ≤ u) (hv : 0 ≤ v) (hw : 0 ≤ w) (ha : 0 ≤ a) (hb : 0 ≤ b) (hc : 0 ≤ c) : 0 ≤ u * a + v * b + w * c := by
  have h1 := Rat.mul_nonneg hu ha
  have h2 := Rat.mul_nonneg hv hb
  have h3 := Rat.mul_nonneg hw hc
  grind
theorem Mean.ge {a b c x : Ray} (m : Mean a b c x) {f : Ray → Rat} (hf : Aff f) (ha : 0 ≤ f a) (hb : 0 ≤ f b) (hc : 0 ≤ f c) : 0 ≤ f x := by
  obtain ⟨u, v, w, hu, hv, hw, h1, h2, h3⟩ := m.ex
  rw [Mean.aff hf h1 h2 h3]
  exact nn3 hu hv hw ha hb hc
theorem tri_mean {a b c x : Ray} (T : 0 < turnR a b c) (h1 : 0 ≤ turnR b c x) (h2 : 0 ≤ turnR c a x) (h3 : 0 ≤ turnR a b x) : Mean a b c x := by
  have s : turnR b c x + turnR c a x + turnR a b x = turnR a b c := by unfold turnR; grind
  have ge : ∀ y : Rat, 0 ≤ y → 0 ≤ y / turnR a b c := fun y hy => by
    rcases (show y = 0 ∨ 0 < y by grind) with c | c
    · rw [c]; grind
    · have := divpos c T; grind
  refine ⟨turnR b c x / turnR a b c, turnR c a x / turnR a b c, turnR a b x / turnR a b c, ge _ h1, ge _ h2, ge _ h3, ?_, ?_, ?_⟩
  · have : turnR a b c ≠ 0 := by grind
    have e : turnR b c x / turnR a b c + turnR c a x / turnR a b c + turnR a b x / turnR a b c = (turnR b c x + turnR c a x + turnR a b x) / turnR a b c := by grind
    rw [e, s]
    grind
  · have : turnR a b c ≠ 0 := by grind
    have g : turnR b c x * a.1 + turnR c a x * b.1 + turnR a b x * c.1 = turnR a b c * x.1 := by unfold turnR; grind
    have e : turnR b c x / turnR a b c * a.1 + turnR c a x / turnR a b c * b.1 + turnR a b x / turnR a b c * c.1 = (turnR b c x * a.1 + turnR c a x * b.1 + turnR a b x * c.1) / turnR a b c := by grind
    rw [e, g]
    grind
  · have : turnR a b c ≠ 0 := by grind
    have g : turnR b c x * a.2 + turnR c a x * b.2 + turnR a b x * c.2 = turnR a b c * x.2 := by unfold turnR; grind
    have e : turnR b c x / turnR a b c * a.2 + turnR c a x / turnR a b c * b.2 + turnR a b x / turnR a b c * c.2 = (turnR b c x * a.2 + turnR c a x * b.2 + turnR a b x * c.2) / turnR a b c := by grind
    rw [e, g]
    grind
theorem fan {p0 x : Ray} : ∀ (l : Ray) (qs : List Ray), 0 ≤ turnR p0 l x → turnR p0 ((l :: qs).getLast (by simp)) x ≤ 0 → (∃ y ∈ pairsF l qs, 0 ≤ turnR p0 y.1 x ∧ turnR p0 y.2 x ≤ 0) ∨ (qs = [] ∧ turnR p0 l x = 0)
  | l, [], h1, h2 => .inr ⟨rfl, by have : turnR p0 l x ≤ 0 := h2; grind⟩
  | l, q :: r, h1, h2 => by
    rcases (show 0 ≤ turnR p0 q x ∨ turnR p0 q x < 0 by grind) with c | c
    · rcases fan q r c (by rw [List.getLast_cons (by simp)] at h2; exact h2) with ⟨y, hy, hh⟩ | ⟨_, h0⟩
      · exact .inl ⟨y, List.mem_cons_of_mem _ hy, hh⟩
      · exact .inl ⟨(l, q), by simp [pairsF], h1, by dsimp only; grind⟩
    · exact .inl ⟨(l, q), by simp [pairsF], h1, by dsimp only; grind⟩
theorem within_mean {ps : List Ray} (h : ES ps) (h3 : 3 ≤ ps.length) {x : Ray} (hx : ∀ y ∈ edgesR ps, 0 ≤ turnR y.1 y.2 x) : ∃ a ∈ ps, ∃ b ∈ ps, ∃ c ∈ ps, Mean a b c x := by
  match ps, h, h3, hx with
  | p0 :: p1 :: p2 :: r, h, h3, hx =>
    have el : (p0 :: p1 :: p2 :: r).getLast? = some ((p0 :: p1 :: p2 :: r).getLast (by simp)) := List.getLast?_eq_some_getLast (by simp)
    have eE : edgesR (p0 :: p1 :: p2 :: r) = ((p1 :: p2 :: r).getLast (by simp), p0) :: (p0, p1) :: pairsF p1 (p2 :: r) := by
      unfold edgesR
      rw [el]
      rfl
    have e1 := hx (p0, p1) (by rw [eE]; simp)
    have e2 := hx ((p1 :: p2 :: r).getLast (by simp), p0) (by rw [eE]; simp)
    dsimp only at e1 e2
    have e3 : turnR p0 ((p1 :: p2 :: r).getLast (by simp)) x ≤ 0 := by
      have : turnR ((p1 :: p2 :: r).getLast (by simp)) p0 x = - turnR p0 ((p1 :: p2 :: r).getLast (by simp)) x := by unfold turnR; grind
      grind
    rcases fan p1 (p2 :: r) e1 e3 with ⟨y, hy, g1, g2⟩ | ⟨hn, _⟩
    · have hyE : y ∈ edgesR (p0 :: p1 :: p2 :: r) := by rw [eE]; exact List.mem_cons_of_mem _ (List.mem_cons_of_mem _ hy)
      obtain ⟨m1, m2⟩ := pairsF_mem hy
      have nd := h.nd
      have n0 := (List.nodup_cons.mp nd).1
      have k1 : y.1 ∈ p1 :: p2 :: r := by rcases m1 with m1 | m1 <;> simp [m1]
      have k2 : y.2 ∈ p1 :: p2 :: r := List.mem_cons_of_mem _ m2
      have T := h.st y hyE p0 (by simp) (fun z => n0 (by rw [z]; exact k1)) (fun z => n0 (by rw [z]; exact k2))
      refine ⟨p0, by simp, y.1, List.mem_cons_of_mem _ k1, y.2, List.mem_cons_of_mem _ k2, tri_mean ?_ (hx y hyE) ?_ g1⟩
      · rw [← turn_rot]; exact T
      · have : turnR y.2 p0 x = - turnR p0 y.2 x := by unfold turnR; grind
        grind
    · cases hn
def InP : List Ray → Ray → Prop
  | [], _ => False
  | [p], x => x = p
  | [p, q], x => ∃ t, 0 ≤ t ∧ t ≤ 1 ∧ x = mixR t p q
  | p :: q :: r :: s, x => ∀ y ∈ edgesR (p :: q :: r :: s), 0 ≤ turnR y.1 y.2 x
theorem InP.three {ps : List Ray} (h3 : 3 ≤ ps.length) {x : Ray} : InP ps x ↔ ∀ y ∈ edgesR ps, 0 ≤ turnR y.1 y.2 x := by
  match ps, h3 with
  | p :: q :: r :: s, _ => exact Iff.rfl
theorem within_aff {ps : List Ray} (h : ES ps) (h3 : 3 ≤ ps.length) {x : Ray} (hx : InP ps x) {f : Ray → Rat} (hf : Aff f) (hp : ∀ p ∈ ps, 0 ≤ f p) : 0 ≤ f x := by
  obtain ⟨a, ha, b, hb, c, hc, m⟩ := within_mean h h3 ((InP.three h3).mp hx)
  exact m.ge hf (hp a ha) (hp b hb) (hp c hc)
section
variable {e : Edg} {ps : List Ray} (h : ES ps) (h3 : 3 ≤ ps.length) (he : e.1 ≠ 0 ∨ e.2.1 ≠ 0)
include h h3 he
theorem cut_in {w : Ray} (hw : w ∈ ps) (rw' : 0 < roomR e w) (x : Ray) : InP (cutN e ps) x ↔ InP ps x ∧ 0 ≤ roomR e x := by
  have h3' := cut_len h h3 hw rw'
  have hE := cut_ES h h3 he (by omega)
  constructor
  · intro hx
    refine ⟨(InP.three h3).mpr fun y hy => within_aff hE h3' hx (aff_turn _ _) fun p hp => cut_ge h h3 hy hp, within_aff hE h3' hx (aff_room e) fun p hp => cut_room hp⟩
  · rintro ⟨hx, rx⟩
    rw [InP.three h3]at hx
    refine (InP.three h3').mpr fun y hy => ?_
    have nst := edges_ne hE.nd (by omega) hy
    obtain ⟨s, t⟩ := y
    have mt := (edges_mem hy).2
    have ny := cut_edges hy
    dsimp only at nst mt ny ⊢
    cases ny with
    | old p q k hpq k0 hk hs ht hc =>
      rw [hk]
      exact Rat.mul_nonneg (by grind) (hx (p, q) hpq)
    | cut p q k rs rt hpq rq k0 hk =>
      obtain ⟨c, c0, hc⟩ := turn_line rs rt nst he
      have g1 : turnR s t q = c * roomR e q := hc q
      have g2 : turnR s q t = k * turnR p q t := hk t
      have g3 := cut_ge h h3 hpq mt
      dsimp only at g3
      have g4 : turnR s q t = - turnR s t q := turn_swap s t q
      have g5 := Rat.mul_nonneg (show 0 ≤ k by grind) g3
      have cp : 0 < c := by
        rcases (show c < 0 ∨ 0 < c by grind) with cc | cc
        · have := Rat.mul_pos (show 0 < -c by grind) (show 0 < - roomR e q by grind)
          grind
        · exact cc
      rw [hc]
      exact Rat.mul_nonneg (by grind) rx
end
end Op
namespace Op
open Fr
def cutG (e : Edg) : List (Ray × Ray) → List Ray → List Ray
  | [], left => left
  | x :: r, left => cutG e r ((if roomR e x.1 * roomR e x.2 < 0 ∧ crossP e x.1 x.2 ∉ left then left ++ [crossP e x.1 x.2] else left) ++ (if 0 ≤ roomR e x.2 then [x.2] else []))
def cutS (e : Edg) (ps : List Ray) : List Ray := cutG e (edgesR ps) []
theorem cutG_eq (e : Edg) : ∀ (xs : List (Ray × Ray)) (left : List Ray), (left ++ xs.flatMap (emitC e)).Nodup → cutG e xs left = left ++ xs.flatMap (emitC e)
  | [], left, _ => by simp [cutG]
  | x :: r, left, h => by
    rw [List.flatMap_cons, ← List.append_assoc] at h ⊢
    have hl := (List.nodup_append.mp h).1
    rw [cutG]
    have e1 : (if roomR e x.1 * roomR e x.2 < 0 ∧ crossP e x.1 x.2 ∉ left then left ++ [crossP e x.1 x.2] else left) ++ (if 0 ≤ roomR e x.2 then [x.2] else []) = left ++ emitC e x := by
      unfold emitC at hl ⊢
      by_cases c : roomR e x.1 * roomR e x.2 < 0
      · rw [if_pos c] at hl ⊢
        have nm : crossP e x.1 x.2 ∉ left := fun m => (List.nodup_append.mp hl).2.2 _ m _ (by simp) rfl
        rw [if_pos ⟨c, nm⟩, List.append_assoc]
      · rw [if_neg c, if_neg (fun z => c z.1)]
        rfl
    rw [e1]
    exact cutG_eq e r _ h
theorem cutS_eq {e : Edg} {ps : List Ray} (h : (cutN e ps).Nodup) : cutS e ps = cutN e ps := by
  have := cutG_eq e (edgesR ps) [] (by rw [List.nil_append]; exact h)
  unfold cutS
  rw [this]
  rfl
theorem ES.no_three {ps : List Ray} (h : ES ps) (h3 : 3 ≤ ps.length) {a b c : Ray} (ha : a ∈ ps) (hb : b ∈ ps) (hc : c ∈ ps) (nab : a ≠ b) (nbc : b ≠ c) (nac : a ≠ c) {t : Rat} (t0 : 0 < t) (t1 : t < 1) (eb : b = mixR t a c) : False := by
  obtain ⟨p, hp⟩ := edges_into hb
  have g1 := h.ge hp ha
  have g2 := h.ge hp hc
  have g3 : turnR p b b = (1 - t) * turnR p b a + t * turnR p b c := by
    have := turn_mix p b t a c
    rw [← eb] at this
    exact this
  rw [turn_pqq] at g3
  obtain ⟨z1, z2⟩ := between (f := turnR p b) (s := a) (z := c) (m := b) (by rw [turn_pqq]; exact g3) t0 t1 g1 g2 (turn_pqq p b)
  have e1 : a = p := by
    by_cases c1 : a = p
    · exact c1
    · have := h.st _ hp a ha c1 nab
      dsimp only at this
      grind
  have e2 : c = p := by
    by_cases c1 : c = p
    · exact c1
    · have := h.st _ hp c hc c1 (fun z => nbc z.symm)
      dsimp only at this
      grind
  exact nac (e1.trans e2.symm)
theorem ES.no_line {ps : List Ray} (h : ES ps) (h3 : 3 ≤ ps.length) {e : Edg} (he : e.1 ≠ 0 ∨ e.2.1 ≠ 0) {a b c : Ray} (ha : a ∈ ps) (hb : b ∈ ps) (hc : c ∈ ps) (nab : a ≠ b) (nbc : b ≠ c) (nac : a ≠ c) (ra : roomR e a = 0) (rb : roomR e b = 0) (rc : roomR e c = 0) : False := by
  obtain ⟨k, k0, hk⟩ := turn_line ra rb nab he
  have h0 : turnR a b c = 0 := by rw [hk, rc]; grind
  rcases on_line_mix nab nac nbc h0 with ⟨t, t0, t1, e⟩ | ⟨t, t0, t1, e⟩ | ⟨t, t0, t1, e⟩
  · exact h.no_three h3 ha hc hb nac (fun z => nbc z.symm) nab t0 t1 e
  · exact h.no_three h3 hc ha hb (fun z => nac z.symm) nab (fun z => nbc z.symm) t0 t1 e
  · exact h.no_three h3 ha hb hc nab nbc nac t0 t1 e
theorem ES.nil : ES [] := ⟨List.nodup_nil, fun x hx => nomatch hx⟩
theorem ES.one (p : Ray) : ES [p] := ⟨by simp, fun x hx z hz n1 n2 => by
  have := (edges_mem hx).1
  simp only [List.mem_singleton] at this hz
  exact absurd (hz.trans this.symm) n1⟩
theorem ES.two {p q : Ray} (n : p ≠ q) : ES [p, q] := ⟨by simpa using n, fun x hx z hz n1 n2 => by
  have hx : x ∈ [(q, p), (p, q)] := hx
  simp only [List.mem_cons, List.not_mem_nil, or_false] at hx hz
  rcases hx with rfl | rfl <;> rcases hz with rfl | rfl <;> first | exact absurd rfl n1 | exact absurd rfl n2⟩
theorem len_cases (l : List Ray) : l = [] ∨ (∃ p, l = [p]) ∨ (∃ p q, l = [p, q]) ∨ 3 ≤ l.length := by
  match l with
  | [] => exact .inl rfl
  | [p] => exact .inr (.inl ⟨p, rfl⟩)
  | [p, q] => exact .inr (.inr (.inl ⟨p, q, rfl⟩))
  | p :: q :: r :: s => exact .inr (.inr (.inr (by simp)))
theorem flat_filter (e : Edg) : ∀ (xs : List (Ray × Ray)), (∀ x ∈ xs, ¬ roomR e x.1 * roomR e x.2 < 0) → xs.flatMap (emitC e) = (xs.map Prod.snd).filter (fun z => decide (0 ≤ roomR e z))
  | [], _ => rfl
  | x :: r, h => by
    rw [List.flatMap_cons, flat_filter e r fun x hx => h x (List.mem_cons_of_mem _ hx), List.map_cons, List.filter_cons]
    unfold emitC
    rw [if_neg (h x (List.mem_cons_self ..))]
    by_cases c : 0 ≤ roomR e x.2
    · rw [if_pos c, if_pos (decide_eq_true c)]; rfl
    · rw [if_neg c, if_neg (by simpa using c)]; rfl
section
variable {e : Edg} {ps : List Ray}
theorem cut_none (hn : ∀ p ∈ ps, ¬ 0 < roomR e p) : cutN e ps = ps.filter (fun z => decide (0 ≤ roomR e z)) := by
  unfold cutN
  rw [flat_filter e (edgesR ps), edges_snd]
  intro x hx c
  have h1 := hn _ (edges_mem hx).1
  have h2 := hn _ (edges_mem hx).2
  rcases mulneg c with h | h <;> grind
theorem cut_none_nodup (h : ES ps) (hn : ∀ p ∈ ps, ¬ 0 < roomR e p) : (cutN e ps).Nodup := by
  rw [cut_none hn]
  exact h.nd.filter _
end
theorem mean_two {p q x : Ray} {t : Rat} (t0 : 0 ≤ t) (t1 : t ≤ 1) (e : x = mixR t p q) {f : Ray → Rat} (hf : Aff f) (hp : 0 ≤ f p) (hq : 0 ≤ f q) : 0 ≤ f x := by
  obtain ⟨a, b, c, h⟩ := hf
  have e2 : f x = (1 - t) * f p + t * f q := by rw [e, h, h, h]; unfold mixR; dsimp only; grind
  rw [e2]
  have h1 := Rat.mul_nonneg (show 0 ≤ 1 - t by grind) hp
  have h2 := Rat.mul_nonneg t0 hq
  grind
theorem in_aff {ps : List Ray} (h : ES ps) {x : Ray} (hx : InP ps x) {f : Ray → Rat} (hf : Aff f) (hp : ∀ p ∈ ps, 0 ≤ f p) : 0 ≤ f x := by
  rcases len_cases ps with rfl | ⟨p, rfl⟩ | ⟨p, q, rfl⟩ | h3
  · exact hx.elim
  · have hx : x = p := hx
    rw [hx]; exact hp p (by simp)
  · obtain ⟨t, t0, t1, e⟩ : ∃ t, 0 ≤ t ∧ t ≤ 1 ∧ x = mixR t p q := hx
    exact mean_two t0 t1 e hf (hp p (by simp)) (hp q (by simp))
  · exact within_aff h h3 hx hf hp
end Op
namespace Op
open Fr
theorem wz {u v w a b c : Rat} (hu : 0 ≤ u) (hv : 0 ≤ v) (hw : 0 ≤ w) (ha : a ≤ 0) (hb : b ≤ 0) (hc : c ≤ 0) (h : 0 ≤ u * a + v * b + w * c) : u * a = 0 ∧ v * b = 0 ∧ w * c = 0 := by
  have h1 := Rat.mul_nonneg hu (show 0 ≤ -a by grind)
  have h2 := Rat.mul_nonneg hv (show 0 ≤ -b by grind)
  have h3 := Rat.mul_nonneg hw (show 0 ≤ -c by grind)
  grind
theorem mulz {u a : Rat} (h : u * a = 0) : u = 0 ∨ a = 0 := by
  rcases Rat.mul_eq_zero.mp h with h | h
  · exact .inl h
  · exact .inr h
theorem share {u : Rat} {a p q : Ray} (hu : 0 ≤ u) (h : u = 0 ∨ a = p ∨ a = q) : ∃ t, 0 ≤ t ∧ t ≤ u ∧ u * a.1 = (u - t) * p.1 + t * q.1 ∧ u * a.2 = (u - t) * p.2 + t * q.2 := by
  rcases h with rfl | rfl | rfl
  · exact ⟨0, by grind, by grind, by grind, by grind⟩
  · exact ⟨0, by grind, by grind, by grind, by grind⟩
  · exact ⟨u, by grind, by grind, by grind, by grind⟩
section
variable {e : Edg} {ps : List Ray} (h : ES ps) (h3 : 3 ≤ ps.length) (he : e.1 ≠ 0 ∨ e.2.1 ≠ 0) (hn : ∀ p ∈ ps, ¬ 0 < roomR e p)
include h h3 he hn
theorem none_len : (cutN e ps).length ≤ 2 := by
  rw [cut_none hn]
  have mem : ∀ z ∈ ps.filter (fun z => decide (0 ≤ roomR e z)), z ∈ ps ∧ roomR e z = 0 := fun z hz => by
    have := List.mem_filter.mp hz
    have h1 := hn z this.1
    have h2 : 0 ≤ roomR e z := of_decide_eq_true this.2
    exact ⟨this.1, by grind⟩
  have nd : (ps.filter (fun z => decide (0 ≤ roomR e z))).Nodup := h.nd.filter _
  generalize ps.filter (fun z => decide (0 ≤ roomR e z)) = l at mem nd
  match l, mem, nd with
  | [], _, _ => simp
  | [_], _, _ => simp
  | [_, _], _, _ => simp
  | a :: b :: c :: r, mem, nd =>
    exfalso
    obtain ⟨a1, a2⟩ := mem a (by simp)
    obtain ⟨b1, b2⟩ := mem b (by simp)
    obtain ⟨c1, c2⟩ := mem c (by simp)
    simp only [List.nodup_cons, List.mem_cons, not_or] at nd
    exact h.no_line h3 he a1 b1 c1 nd.1.1 nd.2.1.1 nd.1.2.1 a2 b2 c2
theorem none_ES : ES (cutN e ps) := by
  have l := none_len h h3 he hn
  have nd := cut_none_nodup h hn
  rcases len_cases (cutN e ps) with c | ⟨p, c⟩ | ⟨p, q, c⟩ | c
  · rw [c]; exact ES.nil
  · rw [c]; exact ES.one p
  · rw [c] at nd ⊢
    exact ES.two (by simpa using nd)
  · omega
theorem none_in (x : Ray) : InP (cutN e ps) x ↔ InP ps x ∧ 0 ≤ roomR e x := by
  have hE := none_ES h h3 he hn
  constructor
  · intro hx
    refine ⟨(InP.three h3).mpr fun y hy => in_aff hE hx (aff_turn _ _) fun p hp => ?_, in_aff hE hx (aff_room e) fun p hp => cut_room hp⟩
    rw [cut_none hn] at hp
    exact h.ge hy (List.mem_filter.mp hp).1
  · rintro ⟨hx, rx⟩
    obtain ⟨a, ha, b, hb, c, hc, m⟩ := within_mean h h3 ((InP.three h3).mp hx)
    obtain ⟨u, v, w, hu, hv, hw, s1, s2, s3⟩ := m.ex
    rw [Mean.aff (aff_room e) s1 s2 s3] at rx
    obtain ⟨z1, z2, z3⟩ := wz hu hv hw (show roomR e a ≤ 0 by have := hn a ha; grind) (show roomR e b ≤ 0 by have := hn b hb; grind) (show roomR e c ≤ 0 by have := hn c hc; grind) rx
    have key : ∀ {u : Rat} {a : Ray}, a ∈ ps → u * roomR e a = 0 → u = 0 ∨ a ∈ cutN e ps := fun ha z => by
      rcases mulz z with z | z
      · exact .inl z
      · refine .inr ?_
        rw [cut_none hn]
        exact List.mem_filter.mpr ⟨ha, decide_eq_true (by grind)⟩
    have k1 := key ha z1
    have k2 := key hb z2
    have k3 := key hc z3
    have l := none_len h h3 he hn
    rcases len_cases (cutN e ps) with c | ⟨p, c⟩ | ⟨p, q, c⟩ | c
    · rw [c] at k1 k2 k3
      simp only [List.not_mem_nil, or_false] at k1 k2 k3
      grind
    · rw [c] at k1 k2 k3 ⊢
      simp only [List.mem_singleton] at k1 k2 k3
      show x = p
      obtain ⟨t1, _, _, a1, a2⟩ := share (p := p) (q := p) hu (k1.imp id .inl)
      obtain ⟨t2, _, _, b1, b2⟩ := share (p := p) (q := p) hv (k2.imp id .inl)
      obtain ⟨t3, _, _, c1, c2⟩ := share (p := p) (q := p) hw (k3.imp id .inl)
      exact Prod.ext (by rw [s2]; grind) (by rw [s3]; grind)
    · rw [c] at k1 k2 k3 ⊢
      simp only [List.mem_cons, List.not_mem_nil, or_false] at k1 k2 k3
      obtain ⟨t1, p1, q1, a1, a2⟩ := share (p := p) (q := q) hu k1
      obtain ⟨t2, p2, q2, b1, b2⟩ := share (p := p) (q := q) hv k2
      obtain ⟨t3, p3, q3, c1, c2⟩ := share (p := p) (q := q) hw k3
      refine ⟨t1 + t2 + t3, by grind, by grind, ?_⟩
      unfold mixR
      exact Prod.ext (by rw [s2, a1, b1, c1]; dsimp only; grind) (by rw [s3, a2, b2, c2]; dsimp only; grind)
    · omega
end
theorem cross_sym {e : Edg} {p q : Ray} (h : roomR e p * roomR e q < 0) : crossP e q p = crossP e p q := by
  have n : roomR e p - roomR e q ≠ 0 := by rcases mulneg h with z | z <;> grind
  have n2 : roomR e q - roomR e p ≠ 0 := by grind
  have g : cutT e q p = 1 - cutT e p q := by unfold cutT; grind
  unfold crossP mixR
  rw [g]
  exact Prod.ext (by dsimp only; grind) (by dsimp only; grind)
theorem cut_two_eq (e : Edg) (p q : Ray) : cutS e [p, q] =
    if roomR e p * roomR e q < 0 then (if 0 ≤ roomR e p then [crossP e p q, p] else [crossP e p q, q]) else (if 0 ≤ roomR e p then [p] else []) ++ (if 0 ≤ roomR e q then [q] else []) := by
  have e1 : cutS e [p, q] = cutG e [(q, p), (p, q)] [] := rfl
  rw [e1]
  unfold cutG cutG cutG
  dsimp only
  have cm : roomR e q * roomR e p = roomR e p * roomR e q := Rat.mul_comm _ _
  rw [cm]
  by_cases c : roomR e p * roomR e q < 0
  · have i1 : (if roomR e p * roomR e q < 0 ∧ crossP e q p ∉ ([] : List Ray) then [] ++ [crossP e q p] else []) = [crossP e p q] := by
      rw [if_pos ⟨c, List.not_mem_nil⟩, cross_sym c]; rfl
    rw [i1, if_pos c]
    by_cases c1 : 0 ≤ roomR e p
    · have c2 : ¬ 0 ≤ roomR e q := by rcases mulneg c with z | z <;> grind
      rw [if_pos c1, if_neg c2, if_pos c1, if_neg (fun z => z.2 (by simp))]
      rfl
    · have c2 : 0 ≤ roomR e q := by rcases mulneg c with z | z <;> grind
      rw [if_neg c1, if_pos c2, if_neg c1, if_neg (fun z => z.2 (by simp))]
      rfl
  · rw [if_neg c, if_neg (fun z => c z.1), if_neg (fun z => c z.1)]
    rfl
theorem half_in {e : Edg} {p q x : Ray} (hp : roomR e p < 0) (hq : 0 < roomR e q) : (∃ t, 0 ≤ t ∧ t ≤ 1 ∧ x = mixR t (crossP e p q) q) ↔ (∃ t, 0 ≤ t ∧ t ≤ 1 ∧ x = mixR t p q) ∧ 0 ≤ roomR e x := by
  have hc : roomR e p * roomR e q < 0 := negmul hp hq
  obtain ⟨c0, c1⟩ := cutT_in hc
  have r0 := cross_room hc
  have er : (1 - cutT e p q) * roomR e p + cutT e p q * roomR e q = 0 := by rw [← room_mix]; exact r0
  unfold crossP
  generalize cutT e p q = c at c0 c1 er
  constructor
  · rintro ⟨t, t0, t1, rfl⟩
    have e1 : mixR t (mixR c p q) q = mixR (c + t * (1 - c)) p q := by unfold mixR; exact Prod.ext (by dsimp only; grind) (by dsimp only; grind)
    have n1 := Rat.mul_nonneg t0 (show 0 ≤ 1 - c by grind)
    have n2 := Rat.mul_nonneg (show 0 ≤ 1 - t by grind) (show 0 ≤ 1 - c by grind)
    refine ⟨⟨c + t * (1 - c), by grind, by grind, e1⟩, ?_⟩
    rw [room_mix, room_mix, er]
    have := Rat.mul_nonneg t0 (show 0 ≤ roomR e q by grind)
    grind
  · rintro ⟨⟨t, t0, t1, rfl⟩, rx⟩
    rw [room_mix] at rx
    have n0 : 0 < roomR e q - roomR e p := by grind
    have ct : c ≤ t := by
      rcases (show c ≤ t ∨ t < c by grind) with h | h
      · exact h
      · exfalso
        have := Rat.mul_pos (show 0 < c - t by grind) n0
        grind
    refine ⟨(t - c) / (1 - c), ?_, ?_, ?_⟩
    · rcases (show t = c ∨ 0 < t - c by grind) with h | h
      · rw [h]; grind
      · have := divpos h (show 0 < 1 - c by grind); grind
    · rcases (show t = 1 ∨ t < 1 by grind) with h | h
      · rw [h]; grind
      · have := divlt1 (a := t - c) (b := 1 - c) (by grind) (by grind); grind
    · have g : (t - c) / (1 - c) * (1 - c) = t - c := divmul (by grind)
      generalize (t - c) / (1 - c) = s at g
      have e1 : mixR s (mixR c p q) q = mixR (c + s * (1 - c)) p q := by unfold mixR; exact Prod.ext (by dsimp only; grind) (by dsimp only; grind)
      rw [e1, g]
      congr 1
      grind
theorem mix_back (t : Rat) (p q : Ray) : mixR t p q = mixR (1 - t) q p := by unfold mixR; exact Prod.ext (by dsimp only; grind) (by dsimp only; grind)
theorem seg_swap {p q x : Ray} : (∃ t, 0 ≤ t ∧ t ≤ 1 ∧ x = mixR t p q) ↔ (∃ t, 0 ≤ t ∧ t ≤ 1 ∧ x = mixR t q p) := by
  constructor <;> rintro ⟨t, t0, t1, e⟩ <;> exact ⟨1 - t, by grind, by grind, by rw [e, mix_back]⟩
theorem cross_ne {e : Edg} {p q : Ray} (h : roomR e p * roomR e q < 0) : crossP e p q ≠ p ∧ crossP e p q ≠ q := by
  have r := cross_room h
  refine ⟨fun z => ?_, fun z => ?_⟩
  · rw [z] at r; rw [r] at h; grind
  · rw [z] at r; rw [r] at h; grind
theorem two_ok {e : Edg} {p q : Ray} (n : p ≠ q) : ES (cutS e [p, q]) ∧ ∀ x, InP (cutS e [p, q]) x ↔ InP [p, q] x ∧ 0 ≤ roomR e x := by
  rw [cut_two_eq]
  by_cases c : roomR e p * roomR e q < 0
  · rw [if_pos c]
    by_cases c1 : 0 ≤ roomR e p
    · rw [if_pos c1]
      refine ⟨ES.two (cross_ne c).1, fun x => ?_⟩
      have hs : roomR e q < 0 ∧ 0 < roomR e p := by rcases mulneg c with z | z <;> grind
      have hh := half_in (x := x) hs.1 hs.2
      rw [cross_sym c] at hh
      show (∃ t, 0 ≤ t ∧ t ≤ 1 ∧ x = mixR t (crossP e p q) p) ↔ (∃ t, 0 ≤ t ∧ t ≤ 1 ∧ x = mixR t p q) ∧ _
      rw [hh, seg_swap]
    · rw [if_neg c1]
      have hs : roomR e p < 0 ∧ 0 < roomR e q := by rcases mulneg c with z | z <;> grind
      exact ⟨ES.two (cross_ne c).2, fun x => half_in hs.1 hs.2⟩
  · rw [if_neg c]
    have room : ∀ t, roomR e (mixR t p q) = (1 - t) * roomR e p + t * roomR e q := fun t => room_mix e t p q
    by_cases c1 : 0 ≤ roomR e p
    · by_cases c2 : 0 ≤ roomR e q
      · rw [if_pos c1, if_pos c2]
        refine ⟨ES.two n, fun x => ⟨fun hx => ⟨hx, ?_⟩, fun hx => hx.1⟩⟩
        exact in_aff (ES.two n) hx (aff_room e) fun r hr => by
          simp only [List.mem_cons, List.not_mem_nil, or_false] at hr
          rcases hr with rfl | rfl <;> assumption
      · have z : roomR e p = 0 := by
          rcases (show roomR e p = 0 ∨ 0 < roomR e p by grind) with h | h
          · exact h
          · exfalso; exact c (by have := negmul (show roomR e q < 0 by grind) h; rw [Rat.mul_comm]; exact this)
        rw [if_pos c1, if_neg c2]
        refine ⟨ES.one p, fun x => ?_⟩
        show x = p ↔ (∃ t, 0 ≤ t ∧ t ≤ 1 ∧ x = mixR t p q) ∧ _
        constructor
        · rintro rfl
          exact ⟨⟨0, by grind, by grind, (mix_zero _ _).symm⟩, c1⟩
        · rintro ⟨⟨t, t0, t1, rfl⟩, rx⟩
          rw [room, z] at rx
          have : t = 0 := by
            rcases (show t = 0 ∨ 0 < t by grind) with h | h
            · exact h
            · have := Rat.mul_pos h (show 0 < - roomR e q by grind); grind
          rw [this, mix_zero]
    · by_cases c2 : 0 ≤ roomR e q
      · have z : roomR e q = 0 := by
          rcases (show roomR e q = 0 ∨ 0 < roomR e q by grind) with h | h
          · exact h
          · exfalso; exact c (negmul (show roomR e p < 0 by grind) h)
        rw [if_neg c1, if_pos c2]
        refine ⟨ES.one q, fun x => ?_⟩
        show x = q ↔ (∃ t, 0 ≤ t ∧ t ≤ 1 ∧ x = mixR t p q) ∧ _
        constructor
        · rintro rfl
          exact ⟨⟨1, by grind, by grind, (mix_one _ _).symm⟩, c2⟩
        · rintro ⟨⟨t, t0, t1, rfl⟩, rx⟩
          rw [room, z] at rx
          have : t = 1 := by
            rcases (show t = 1 ∨ 0 < 1 - t by grind) with h | h
            · exact h
            · have := Rat.mul_pos h (show 0 < - roomR e p by grind); grind
          rw [this, mix_one]
      · rw [if_neg c1, if_neg c2]
        refine ⟨ES.nil, fun x => ⟨fun hx => hx.elim, ?_⟩⟩
        rintro ⟨⟨t, t0, t1, rfl⟩, rx⟩
        rw [room] at rx
        have h1 := Rat.mul_nonneg t0 (show 0 ≤ - roomR e q by grind)
        have h2 := Rat.mul_nonneg (show 0 ≤ 1 - t by grind) (show 0 ≤ - roomR e p by grind)
        rcases (show t = 0 ∨ 0 < t by grind) with h | h
        · rw [h] at rx; grind
        · have := Rat.mul_pos h (show 0 < - roomR e q by grind); grind
theorem one_eq (e : Edg) (p : Ray) : cutS e [p] = if 0 ≤ roomR e p then [p] else [] := by
  have e1 : cutS e [p] = cutG e [(p, p)] [] := rfl
  rw [e1]
  unfold cutG cutG
  dsimp only
  have c : ¬ roomR e p * roomR e p < 0 := fun z => by rcases mulneg z with h | h <;> grind
  rw [if_neg (fun z => c z.1)]
  rfl
theorem cutS_three {e : Edg} {ps : List Ray} (h : ES ps) (h3 : 3 ≤ ps.length) : cutS e ps = cutN e ps := cutS_eq (cut_nodup h h3)
theorem cutS_ok {e : Edg} {ps : List Ray} (h : ES ps) (he : e.1 ≠ 0 ∨ e.2.1 ≠ 0) : ES (cutS e ps) ∧ ∀ x, InP (cutS e ps) x ↔ InP ps x ∧ 0 ≤ roomR e x := by
  rcases len_cases ps with rfl | ⟨p, rfl⟩ | ⟨p, q, rfl⟩ | h3
  · exact ⟨ES.nil, fun x => ⟨fun hx => hx.elim, fun hx => hx.1⟩⟩
  · rw [one_eq]
    by_cases c : 0 ≤ roomR e p
    · rw [if_pos c]
      exact ⟨ES.one p, fun x => ⟨fun hx => ⟨hx, by rw [show x = p from hx]; exact c⟩, fun hx => hx.1⟩⟩
    · rw [if_neg c]
      exact ⟨ES.nil, fun x => ⟨fun hx => hx.elim, fun hx => c (by rw [← show x = p from hx.1]; exact hx.2)⟩⟩
  · exact two_ok (by simpa using h.nd)
  · rw [cutS_three h h3]
    by_cases c : ∃ w ∈ ps, 0 < roomR e w
    · obtain ⟨w, hw, rw'⟩ := c
      exact ⟨cut_ES h h3 he (by have := cut_len h h3 hw rw'; omega), cut_in h h3 he hw rw'⟩
    · have hn : ∀ p ∈ ps, ¬ 0 < roomR e p := fun p hp z => c ⟨p, hp, z⟩
      exact ⟨none_ES h h3 he hn, none_in h h3 he hn⟩
end Op
namespace Op
open Fr
def isCross (e : Edg) (x : Ray × Ray) : Bool := decide (roomR e x.1 * roomR e x.2 < 0)
theorem flat_len (e : Edg) : ∀ xs : List (Ray × Ray), (xs.flatMap (emitC e)).length = (xs.filter (isCross e)).length + ((xs.map Prod.snd).filter (fun z => decide (0 ≤ roomR e z))).length
  | [] => rfl
  | x :: r => by
    rw [List.flatMap_cons, List.length_append, flat_len e r, List.map_cons, List.filter_cons, List.filter_cons]
    unfold emitC isCross
    by_cases c1 : roomR e x.1 * roomR e x.2 < 0 <;> by_cases c2 : 0 ≤ roomR e x.2
    · rw [if_pos c1, if_pos c2, if_pos (decide_eq_true c1), if_pos (decide_eq_true c2)]
      simp only [List.length_append, List.length_cons, List.length_nil]; omega
    · rw [if_pos c1, if_neg c2, if_pos (decide_eq_true c1), if_neg (by simpa using c2)]
      simp only [List.length_append, List.length_cons, List.length_nil]; omega
    · rw [if_neg c1, if_pos c2, if_neg (by simpa using c1), if_pos (decide_eq_true c2)]
      simp only [List.length_append, List.length_cons, List.length_nil]; omega
    · rw [if_neg c1, if_neg c2, if_neg (by simpa using c1), if_neg (by simpa using c2)]
      simp only [List.length_append, List.length_nil]; omega
theorem nodup_of_map {α β : Type} {f : α → β} : ∀ {l : List α}, (l.map f).Nodup → l.Nodup
  | [], _ => List.nodup_nil
  | a :: r, h => by
    rw [List.map_cons, List.nodup_cons] at h
    exact List.nodup_cons.mpr ⟨fun m => h.1 (List.mem_map_of_mem m), nodup_of_map h.2⟩
theorem cut_count {e : Edg} {ps : List Ray} (h : ES ps) (he : e.1 ≠ 0 ∨ e.2.1 ≠ 0) : (cutS e ps).length ≤ ps.length + 1 := by
  rcases len_cases ps with rfl | ⟨p, rfl⟩ | ⟨p, q, rfl⟩ | h3
  · exact Nat.zero_le _
  · rw [one_eq]; split <;> simp
  · rw [cut_two_eq]
    split
    · split <;> simp
    · split <;> split <;> simp
  · rw [cutS_three h h3]
    unfold cutN
    rw [flat_len, edges_snd]
    have ndE : (edgesR ps).Nodup := nodup_of_map (f := Prod.snd) (by rw [edges_snd]; exact h.nd)
    have nd : ((edgesR ps).filter (isCross e)).Nodup := ndE.filter _
    have mem : ∀ x ∈ (edgesR ps).filter (isCross e), x ∈ edgesR ps ∧ roomR e x.1 * roomR e x.2 < 0 := fun x hx => ⟨(List.mem_filter.mp hx).1, of_decide_eq_true (List.mem_filter.mp hx).2⟩
    have le := List.length_filter_le (fun z => decide (0 ≤ roomR e z)) ps
    have two : ((edgesR ps).filter (isCross e)).length ≤ 2 := by
      generalize (edgesR ps).filter (isCross e) = l at nd mem
      match l, nd, mem with
      | [], _, _ => simp
      | [_], _, _ => simp
      | [_, _], _, _ => simp
      | a :: b :: c :: r, nd, mem =>
        exfalso
        obtain ⟨a1, a2⟩ := mem a (by simp)
        obtain ⟨b1, b2⟩ := mem b (by simp)
        obtain ⟨c1, c2⟩ := mem c (by simp)
        simp only [List.nodup_cons, List.mem_cons, not_or] at nd
        have nab := cross_two h h3 a1 b1 nd.1.1 a2 b2
        have nac := cross_two h h3 a1 c1 nd.1.2.1 a2 c2
        have nbc := cross_two h h3 b1 c1 nd.2.1.1 b2 c2
        have := cut_two h h3 he (cut_mem.mpr (.inr ⟨a, a1, a2, rfl⟩)) (cut_mem.mpr (.inr ⟨b, b1, b2, rfl⟩)) (cut_mem.mpr (.inr ⟨c, c1, c2, rfl⟩)) (cross_room a2) (cross_room b2) nab (fun z => nac z.symm) (fun z => nbc z.symm)
        rw [cross_room c2] at this
        grind
    by_cases c : (edgesR ps).filter (isCross e) = []
    · rw [c]
      simp only [List.length_nil]
      omega
    · obtain ⟨x, hx⟩ := List.exists_mem_of_ne_nil _ c
      obtain ⟨x1, x2⟩ := mem x hx
      have neg : ∃ z ∈ ps, ¬ 0 ≤ roomR e z := by
        obtain ⟨m1, m2⟩ := edges_mem x1
        rcases mulneg x2 with z | z
        · exact ⟨_, m1, by grind⟩
        · exact ⟨_, m2, by grind⟩
      have lt : (ps.filter (fun z => decide (0 ≤ roomR e z))).length < ps.length := by
        rw [List.length_filter_lt_length_iff_exists]
        obtain ⟨z, hz, nz⟩ := neg
        exact ⟨z, hz, by simpa using nz⟩
      omega
structure LinB (L : Nat) (A B C : Int) : Prop where
  a : A.natAbs < 2 ^ L
  b : B.natAbs < 2 ^ L
  c : C.natAbs < 2 ^ L
def OnI (A B C : Int) (p : Ray) : Prop := (A : Rat) * p.1 + (B : Rat) * p.2 + (C : Rat) = 0
structure OnL (L : Nat) (p q : Ray) : Prop where
  ex : ∃ A B C : Int, LinB L A B C ∧ (A ≠ 0 ∨ B ≠ 0) ∧ OnI A B C p ∧ OnI A B C q
structure Two (L : Nat) (p : Ray) : Prop where
  ex : ∃ A B C A' B' C' : Int, LinB L A B C ∧ LinB L A' B' C' ∧ A * B' - A' * B ≠ 0 ∧ OnI A B C p ∧ OnI A' B' C' p
structure EdB (L : Nat) (e : Edg) : Prop where
  ex : ∃ (A B C : Int) (k : Rat), LinB L A B C ∧ k ≠ 0 ∧ e.1 = k * A ∧ e.2.1 = k * B ∧ e.2.2 = k * C
theorem Two.self {L : Nat} {p : Ray} (h : Two L p) : OnL L p p := by
  obtain ⟨A, B, C, A', B', C', h1, h2, d, o1, o2⟩ := h.ex
  refine ⟨A, B, C, h1, ?_, o1, o1⟩
  by_cases a : A = 0
  · by_cases b : B = 0
    · exfalso; apply d; rw [a, b]; simp
    · exact .inr b
  · exact .inl a
theorem OnL.swap {L : Nat} {p q : Ray} (h : OnL L p q) : OnL L q p := by
  obtain ⟨A, B, C, h1, h2, o1, o2⟩ := h.ex
  exact ⟨A, B, C, h1, h2, o2, o1⟩
theorem on_mix {A B C : Int} {p q : Ray} (t : Rat) (hp : OnI A B C p) (hq : OnI A B C q) : OnI A B C (mixR t p q) := by
  unfold OnI mixR at *
  dsimp only
  grind
theorem EdB.on {L : Nat} {e : Edg} (h : EdB L e) : ∃ A B C : Int, LinB L A B C ∧ ((e.1 ≠ 0 ∨ e.2.1 ≠ 0) → (A ≠ 0 ∨ B ≠ 0)) ∧ (∃ k : Rat, k ≠ 0 ∧ ∀ p : Ray, roomR e p = k * ((A : Rat) * p.1 + (B : Rat) * p.2 + (C : Rat))) := by
  obtain ⟨A, B, C, k, h1, k0, e1, e2, e3⟩ := h.ex
  refine ⟨A, B, C, h1, ?_, k, k0, fun p => ?_⟩
  · rintro (n | n)
    · exact .inl fun z => n (by rw [e1, z]; grind)
    · exact .inr fun z => n (by rw [e2, z]; grind)
  · unfold roomR
    rw [e1, e2, e3]
    grind
theorem two_cross {L : Nat} {e : Edg} {p q : Ray} (hl : OnL L p q) (hb : EdB L e) (h : roomR e p * roomR e q < 0) : Two L (crossP e p q) := by
  obtain ⟨A, B, C, h1, n1, o1, o2⟩ := hl.ex
  obtain ⟨A', B', C', h2, _, k, k0, hk⟩ := hb.on
  have rc := cross_room h
  refine ⟨A, B, C, A', B', C', h1, h2, fun d => ?_, on_mix _ o1 o2, ?_⟩
  · have ne : roomR e p ≠ roomR e q := by rcases mulneg h with z | z <;> grind
    apply ne
    rw [hk p, hk q]
    have d' : (A : Rat) * B' = (A' : Rat) * B := by
      have : A * B' = A' * B := by omega
      have := congrArg (fun z : Int => (z : Rat)) this
      simpa only [Rat.intCast_mul] using this
    unfold OnI at o1 o2
    have g : (A' : Rat) * (p.1 - q.1) + (B' : Rat) * (p.2 - q.2) = 0 := by
      rcases n1 with n | n
      · have n : (A : Rat) ≠ 0 := fun z => n (by have := Rat.intCast_eq_zero_iff.mp z; exact this)
        have : (A : Rat) * ((A' : Rat) * (p.1 - q.1) + (B' : Rat) * (p.2 - q.2)) = 0 := by grind
        rcases mulz this with z | z
        · exact absurd z n
        · exact z
      · have n : (B : Rat) ≠ 0 := fun z => n (by have := Rat.intCast_eq_zero_iff.mp z; exact this)
        have : (B : Rat) * ((A' : Rat) * (p.1 - q.1) + (B' : Rat) * (p.2 - q.2)) = 0 := by grind
        rcases mulz this with z | z
        · exact absurd z n
        · exact z
    congr 1
    grind
  · rw [hk] at rc
    rcases mulz rc with z | z
    · exact absurd z k0
    · exact z
theorem on_edge {L : Nat} {e : Edg} {s t : Ray} (hb : EdB L e) (he : e.1 ≠ 0 ∨ e.2.1 ≠ 0) (rs : roomR e s = 0) (rt : roomR e t = 0) : OnL L s t := by
  obtain ⟨A, B, C, h2, n, k, k0, hk⟩ := hb.on
  have f : ∀ z : Ray, roomR e z = 0 → OnI A B C z := fun z rz => by
    rw [hk] at rz
    rcases mulz rz with z | z
    · exact absurd z k0
    · exact z
  exact ⟨A, B, C, h2, n he, f s rs, f t rt⟩
structure PolB (L : Nat) (ps : List Ray) : Prop where
  two : ∀ p ∈ ps, Two L p
  on : ∀ x ∈ edgesR ps, OnL L x.1 x.2
theorem OnL.mixL {L : Nat} {p q s t : Ray} (h : OnL L p q) (hs : s = p ∨ s = q ∨ ∃ c, s = mixR c p q) (ht : t = p ∨ t = q ∨ ∃ c, t = mixR c p q) : OnL L s t := by
  obtain ⟨A, B, C, h1, n1, o1, o2⟩ := h.ex
  refine ⟨A, B, C, h1, n1, ?_, ?_⟩
  · rcases hs with rfl | rfl | ⟨c, rfl⟩
    · exact o1
    · exact o2
    · exact on_mix _ o1 o2
  · rcases ht with rfl | rfl | ⟨c, rfl⟩
    · exact o1
    · exact o2
    · exact on_mix _ o1 o2
theorem cutN_bits {L : Nat} {e : Edg} {ps : List Ray} (h : PolB L ps) (hb : EdB L e) (he : e.1 ≠ 0 ∨ e.2.1 ≠ 0) : PolB L (cutN e ps) := by
  refine ⟨fun p hp => ?_, fun y hy => ?_⟩
  · rcases cut_mem.mp hp with ⟨h1, _⟩ | ⟨x, hx, hc, rfl⟩
    · exact h.two p h1
    · exact two_cross (h.on x hx) hb hc
  · obtain ⟨s, t⟩ := y
    have ny := cut_edges hy
    dsimp only at ny ⊢
    cases ny with
    | old p q k hpq k0 hk hs ht hc =>
      refine (h.on _ hpq).mixL ?_ ?_
      · rcases hs with rfl | ⟨rfl, _⟩
        · exact .inl rfl
        · exact .inr (.inr ⟨_, rfl⟩)
      · rcases ht with rfl | ⟨rfl, _⟩
        · exact .inr (.inl rfl)
        · exact .inr (.inr ⟨_, rfl⟩)
    | cut p q k rs rt hpq rq k0 hk => exact on_edge hb he rs rt
theorem PolB.nil (L : Nat) : PolB L [] := by
  refine ⟨fun p hp => ?_, fun x hx => ?_⟩
  · cases hp
  · cases hx
theorem PolB.one {L : Nat} {p : Ray} (h : Two L p) : PolB L [p] := by
  refine ⟨fun q hq => ?_, fun x hx => ?_⟩
  · rw [List.mem_singleton.mp hq]; exact h
  · have hx : x ∈ [(p, p)] := hx
    rw [List.mem_singleton.mp hx]; exact h.self
theorem PolB.pair {L : Nat} {p q : Ray} (h1 : Two L p) (h2 : Two L q) (h : OnL L p q) : PolB L [p, q] := by
  refine ⟨fun r hr => ?_, fun x hx => ?_⟩
  · simp only [List.mem_cons, List.not_mem_nil, or_false] at hr
    rcases hr with rfl | rfl <;> assumption
  · have hx : x ∈ [(q, p), (p, q)] := hx
    simp only [List.mem_cons, List.not_mem_nil, or_false] at hx
    rcases hx with rfl | rfl
    · exact h.swap
    · exact h
theorem cutS_bits {L : Nat} {e : Edg} {ps : List Ray} (h : ES ps) (hp : PolB L ps) (hb : EdB L e) (he : e.1 ≠ 0 ∨ e.2.1 ≠ 0) : PolB L (cutS e ps) := by
  rcases len_cases ps with rfl | ⟨p, rfl⟩ | ⟨p, q, rfl⟩ | h3
  · exact PolB.nil L
  · rw [one_eq]
    split
    · exact hp
    · exact PolB.nil L
  · have o1 : OnL L p q := hp.on (p, q) (show (p, q) ∈ [(q, p), (p, q)] by simp)
    have tp := hp.two p (by simp)
    have tq := hp.two q (by simp)
    rw [cut_two_eq]
    by_cases c : roomR e p * roomR e q < 0
    · rw [if_pos c]
      have tx := two_cross o1 hb c
      split
      · exact PolB.pair tx tp (o1.mixL (.inr (.inr ⟨_, rfl⟩)) (.inl rfl))
      · exact PolB.pair tx tq (o1.mixL (.inr (.inr ⟨_, rfl⟩)) (.inr (.inl rfl)))
    · rw [if_neg c]
      split <;> split
      · exact hp
      · exact PolB.one tp
      · exact PolB.one tq
      · exact PolB.nil L
  · rw [cutS_three h h3]
    exact cutN_bits hp hb he
theorem Two.rb {L : Nat} {p : Ray} (h : Two L p) : Rb (2 * L + 1) p.1 p.2 := by
  obtain ⟨A, B, C, A', B', C', h1, h2, d, o1, o2⟩ := h.ex
  have bits : ∀ {x y z w : Int}, x.natAbs < 2 ^ L → y.natAbs < 2 ^ L → z.natAbs < 2 ^ L → w.natAbs < 2 ^ L → (x * y - z * w).natAbs < 2 ^ (2 * L + 1) := fun hx hy hz hw => by
    have := abs_sub (abs_mul hx hy) (abs_mul hz hw)
    rw [← Nat.two_mul] at this
    exact this
  have cd : ∀ x y z w : Int, ((x * y - z * w : Int) : Rat) = (x : Rat) * y - (z : Rat) * w := fun x y z w => by rw [Rat.intCast_sub, Rat.intCast_mul, Rat.intCast_mul]
  unfold OnI at o1 o2
  have e1 : p.1 * ((A * B' - A' * B : Int) : Rat) = ((B * C' - B' * C : Int) : Rat) := by rw [cd, cd]; grind
  have e2 : p.2 * ((A * B' - A' * B : Int) : Rat) = ((A' * C - A * C' : Int) : Rat) := by rw [cd, cd]; grind
  have dR : ((A * B' - A' * B : Int) : Rat) ≠ 0 := fun z => d (Rat.intCast_eq_zero_iff.mp z)
  have fin : ∀ (D Y U : Int), D ≠ 0 → (D : Rat) ≠ 0 → D.natAbs < 2 ^ (2 * L + 1) → Y.natAbs < 2 ^ (2 * L + 1) → U.natAbs < 2 ^ (2 * L + 1) → p.1 * (D : Rat) = (Y : Rat) → p.2 * (D : Rat) = (U : Rat) → Rb (2 * L + 1) p.1 p.2 := fun D Y U d0 d1 hD hY hU q1 q2 => by
    by_cases s : 0 < D
    · refine ⟨Y, U, D.natAbs, by omega, hD, hY, hU, ?_, ?_⟩
      · rw [show ((D.natAbs : Nat) : Int) = D by omega, Rat.divInt_eq_div]; grind
      · rw [show ((D.natAbs : Nat) : Int) = D by omega, Rat.divInt_eq_div]; grind
    · have en : ((D.natAbs : Nat) : Int) = -D := by omega
      refine ⟨-Y, -U, D.natAbs, by omega, hD, by rw [Int.natAbs_neg]; exact hY, by rw [Int.natAbs_neg]; exact hU, ?_, ?_⟩
      · rw [en, Rat.divInt_eq_div, Rat.intCast_neg, Rat.intCast_neg]; grind
      · rw [en, Rat.divInt_eq_div, Rat.intCast_neg, Rat.intCast_neg]; grind
  exact fin _ _ _ d dR (bits h1.a h2.b h2.a h1.b) (bits h1.b h2.c h2.b h1.c) (bits h2.a h1.c h1.a h2.c) e1 e2
end Op
namespace Op
open Fr
theorem pairsF_len (l : Ray) : ∀ ps : List Ray, (pairsF l ps).length = ps.length
  | [] => rfl
  | p :: r => by show (pairsF p r).length + 1 = r.length + 1; rw [pairsF_len p r]
theorem edges_len (ps : List Ray) : (edgesR ps).length = ps.length := by
  unfold edgesR
  cases h : ps.getLast? with
  | none => rw [List.getLast?_eq_none_iff.mp h]; rfl
  | some l => exact pairsF_len l ps
theorem pairsF_get0 (l : Ray) : ∀ (ps : List Ray) (i : Nat), i < ps.length → (pairsF l ps)[i]? = some (if i = 0 then l else atR ps (i - 1), atR ps i)
  | p :: r, 0, _ => rfl
  | p :: r, i + 1, h => by
    show (pairsF p r)[i]? = _
    rw [pairsF_get0 p r i (by simpa using h)]
    cases i with
    | zero => rfl
    | succ j => rfl
theorem edges_at {ps : List Ray} {i : Nat} (h : i < ps.length) : (edgesR ps)[i]? = some (prevR ps i, atR ps i) := by
  unfold edgesR
  cases hl : ps.getLast? with
  | none => rw [List.getLast?_eq_none_iff.mp hl] at h; exact absurd h (by simp)
  | some l =>
    show (pairsF l ps)[i]? = _
    rw [pairsF_get0 l ps i h]
    unfold prevR
    by_cases e : i = 0
    · rw [if_pos e, if_pos e]
      have : atR ps (ps.length - 1) = l := by
        unfold atR
        rw [List.getD_eq_getElem?_getD, ← List.getLast?_eq_getElem?, hl]
        rfl
      rw [this]
    · rw [if_neg e, if_neg e]
def leastI (cs : List Ray) : Nat → Nat
  | 0 => 0
  | i + 1 => if befR (atR cs i) (atR cs (leastI cs i)) = true then i else leastI cs i
def rotL (cs : List Ray) : List Ray := cs.drop (leastI cs cs.length) ++ cs.take (leastI cs cs.length)
theorem least_lt (cs : List Ray) : ∀ m, 0 < m → leastI cs m < m
  | 0, h => absurd h (by decide)
  | m + 1, _ => by
    rw [leastI]
    split
    · omega
    · cases m with
      | zero => show 0 < 1; decide
      | succ k => have := least_lt cs (k + 1) (by omega); omega
end Op
namespace Op
open Fr
structure Box where
  a : Rat
  b : Rat
  c : Rat
  d : Rat
def Box.four (x : Box) : List Ray := [(x.a, x.c), (x.b, x.c), (x.b, x.d), (x.a, x.d)]
def dedup : List Ray → List Ray → List Ray
  | [], acc => acc
  | c :: cs, acc => dedup cs (if c ∈ acc then acc else acc ++ [c])
def boxC (x : Box) : List Ray := dedup x.four []
structure Box.ok (x : Box) : Prop where
  h : x.a ≤ x.b
  s : x.c ≤ x.d
theorem ray_eq {a b c d : Rat} : ((a, b) : Ray) = (c, d) ↔ a = c ∧ b = d := Prod.mk.injEq a b c d ▸ Iff.rfl
theorem box4 {x : Box} (h1 : x.a < x.b) (h2 : x.c < x.d) : boxC x = [(x.a, x.c), (x.b, x.c), (x.b, x.d), (x.a, x.d)] := by
  have n1 : x.b ≠ x.a := by grind
  have n2 : x.d ≠ x.c := by grind
  have n3 : x.a ≠ x.b := by grind
  have n4 : x.c ≠ x.d := by grind
  unfold boxC Box.four
  simp [dedup, ray_eq, n1, n2, n3, n4]
theorem boxV {x : Box} (h1 : x.a = x.b) (h2 : x.c < x.d) : boxC x = [(x.a, x.c), (x.a, x.d)] := by
  have n2 : x.d ≠ x.c := by grind
  have n4 : x.c ≠ x.d := by grind
  unfold boxC Box.four
  simp [dedup, ray_eq, ← h1, n2, n4]
theorem boxH {x : Box} (h1 : x.a < x.b) (h2 : x.c = x.d) : boxC x = [(x.a, x.c), (x.b, x.c)] := by
  have n2 : x.b ≠ x.a := by grind
  have n4 : x.a ≠ x.b := by grind
  unfold boxC Box.four
  simp [dedup, ray_eq, ← h2, n2, n4]
theorem box1 {x : Box} (h1 : x.a = x.b) (h2 : x.c = x.d) : boxC x = [(x.a, x.c)] := by
  unfold boxC Box.four
  simp [dedup, ray_eq, ← h1, ← h2]
theorem Box.cases {x : Box} (h : x.ok) : (x.a < x.b ∧ x.c < x.d) ∨ (x.a = x.b ∧ x.c < x.d) ∨ (x.a < x.b ∧ x.c = x.d) ∨ (x.a = x.b ∧ x.c = x.d) := by
  have := h.h
  have := h.s
  rcases (show x.a < x.b ∨ x.a = x.b by grind) with a | a <;> rcases (show x.c < x.d ∨ x.c = x.d by grind) with b | b
  · exact .inl ⟨a, b⟩
  · exact .inr (.inr (.inl ⟨a, b⟩))
  · exact .inr (.inl ⟨a, b⟩)
  · exact .inr (.inr (.inr ⟨a, b⟩))
theorem nn_of {k z : Rat} (hk : 0 < k) : 0 ≤ k * z ↔ 0 ≤ z := by
  constructor
  · intro h
    rcases (show 0 ≤ z ∨ z < 0 by grind) with c | c
    · exact c
    · have := Rat.mul_pos hk (show 0 < -z by grind)
      grind
  · intro h; exact Rat.mul_nonneg (by grind) h
theorem box_ES {x : Box} (h : x.ok) : ES (boxC x) := by
  rcases Box.cases h with ⟨h1, h2⟩ | ⟨h1, h2⟩ | ⟨h1, h2⟩ | ⟨h1, h2⟩
  · rw [box4 h1 h2]
    have n1 : x.b ≠ x.a := by grind
    have n2 : x.d ≠ x.c := by grind
    have n3 : x.a ≠ x.b := by grind
    have n4 : x.c ≠ x.d := by grind
    have wp := Rat.mul_pos (show 0 < x.b - x.a by grind) (show 0 < x.d - x.c by grind)
    refine ⟨by simp [ray_eq, n1, n2, n3, n4], fun y hy z hz m1 m2 => ?_⟩
    have hy : y ∈ [((x.a, x.d), (x.a, x.c)), ((x.a, x.c), (x.b, x.c)), ((x.b, x.c), (x.b, x.d)), ((x.b, x.d), (x.a, x.d))] := hy
    simp only [List.mem_cons, List.not_mem_nil, or_false] at hy hz
    unfold turnR
    rcases hy with rfl | rfl | rfl | rfl <;> rcases hz with rfl | rfl | rfl | rfl <;> dsimp only at m1 m2 ⊢ <;> first | exact absurd rfl m1 | exact absurd rfl m2 | grind
  · rw [boxV h1 h2]; exact ES.two (by rw [Ne, ray_eq]; grind)
  · rw [boxH h1 h2]; exact ES.two (by rw [Ne, ray_eq]; grind)
  · rw [box1 h1 h2]; exact ES.one _
structure Box.bd (n : Nat) (x : Box) : Prop where
  a : Bd n x.a
  b : Bd n x.b
  c : Bd n x.c
  d : Bd n x.d
theorem num_den (q : Rat) : (q.den : Rat) * q = (q.num : Rat) := by
  have h : q = (q.num : Rat) / (q.den : Rat) := by rw [← Rat.intCast_natCast, ← Rat.divInt_eq_div]; exact (Rat.num_divInt_den q).symm
  have d : (q.den : Rat) ≠ 0 := fun z => q.den_nz (by exact_mod_cast z)
  generalize (q.num : Rat) = a at *
  generalize (q.den : Rat) = b at *
  grind
theorem two_of {L : Nat} {p q : Rat} (hp : Bd L p) (hq : Bd L q) (h0 : 0 < L) : Two L (p, q) := by
  have z : (0 : Int).natAbs < 2 ^ L := by show 0 < 2 ^ L; exact Nat.two_pow_pos L
  refine ⟨(p.den : Int), 0, -p.num, 0, (q.den : Int), -q.num, ⟨hp.d, z, by rw [Int.natAbs_neg]; exact hp.n⟩, ⟨z, hq.d, by rw [Int.natAbs_neg]; exact hq.n⟩, ?_, ?_, ?_⟩
  · have h1 := p.den_nz
    have h2 := q.den_nz
    rw [Int.zero_mul, Int.sub_zero]
    intro e
    rcases Int.mul_eq_zero.mp e with e | e <;> omega
  · unfold OnI
    have := num_den p
    simp only [Rat.intCast_natCast, Rat.intCast_neg, Rat.intCast_zero]
    grind
  · unfold OnI
    have := num_den q
    simp only [Rat.intCast_natCast, Rat.intCast_neg, Rat.intCast_zero]
    grind
theorem onl_y {L : Nat} {p u v : Rat} (hp : Bd L p) : OnL L (p, u) (p, v) := by
  have z : (0 : Int).natAbs < 2 ^ L := by show 0 < 2 ^ L; exact Nat.two_pow_pos L
  have := num_den p
  have h1 := p.den_nz
  refine ⟨(p.den : Int), 0, -p.num, ⟨hp.d, z, by rw [Int.natAbs_neg]; exact hp.n⟩, .inl (by omega), ?_, ?_⟩ <;>
  · unfold OnI
    simp only [Rat.intCast_natCast, Rat.intCast_neg, Rat.intCast_zero]
    grind
theorem onl_u {L : Nat} {p u v : Rat} (hp : Bd L p) : OnL L (u, p) (v, p) := by
  have z : (0 : Int).natAbs < 2 ^ L := by show 0 < 2 ^ L; exact Nat.two_pow_pos L
  have := num_den p
  have h1 := p.den_nz
  refine ⟨0, (p.den : Int), -p.num, ⟨z, hp.d, by rw [Int.natAbs_neg]; exact hp.n⟩, .inr (by omega), ?_, ?_⟩ <;>
  · unfold OnI
    simp only [Rat.intCast_natCast, Rat.intCast_neg, Rat.intCast_zero]
    grind
theorem box_bits {L : Nat} {x : Box} (h : x.ok) (b : x.bd L) (h0 : 0 < L) : PolB L (boxC x) := by
  have c1 := two_of b.a b.c h0
  have c2 := two_of b.b b.c h0
  have c3 := two_of b.b b.d h0
  have c4 := two_of b.a b.d h0
  rcases Box.cases h with ⟨h1, h2⟩ | ⟨h1, h2⟩ | ⟨h1, h2⟩ | ⟨h1, h2⟩
  · rw [box4 h1 h2]
    refine ⟨fun p hp => ?_, fun y hy => ?_⟩
    · simp only [List.mem_cons, List.not_mem_nil, or_false] at hp
      rcases hp with rfl | rfl | rfl | rfl <;> assumption
    · have hy : y ∈ [((x.a, x.d), (x.a, x.c)), ((x.a, x.c), (x.b, x.c)), ((x.b, x.c), (x.b, x.d)), ((x.b, x.d), (x.a, x.d))] := hy
      simp only [List.mem_cons, List.not_mem_nil, or_false] at hy
      rcases hy with rfl | rfl | rfl | rfl
      · exact onl_y b.a
      · exact onl_u b.c
      · exact onl_y b.b
      · exact onl_u b.d
  · rw [boxV h1 h2]; exact PolB.pair c1 c4 (onl_y b.a)
  · rw [boxH h1 h2]; exact PolB.pair c1 c2 (onl_u b.c)
  · rw [box1 h1 h2]; exact PolB.one c1
theorem box_len {x : Box} (h : x.ok) : (boxC x).length ≤ 4 := by
  rcases Box.cases h with ⟨h1, h2⟩ | ⟨h1, h2⟩ | ⟨h1, h2⟩ | ⟨h1, h2⟩
  · rw [box4 h1 h2]; show 4 ≤ 4; decide
  · rw [boxV h1 h2]; show 2 ≤ 4; decide
  · rw [boxH h1 h2]; show 2 ≤ 4; decide
  · rw [box1 h1 h2]; show 1 ≤ 4; decide
theorem edge_bits {n M : Nat} {a b c : Rat} (ha : Bd n a) (hb : Bd n b) (hc : Bd M c) : EdB (2 * n + M) (a, b, c) := by
  have d1 := a.den_nz
  have d2 := b.den_nz
  have d3 := c.den_nz
  have e1 := num_den a
  have e2 := num_den b
  have e3 := num_den c
  have m3 : ∀ {x y z p q r : Nat}, x < 2 ^ p → y < 2 ^ q → z < 2 ^ r → x * y * z < 2 ^ (p + q + r) := fun {x y z p q r} hx hy hz => by
    rw [Nat.pow_add, Nat.pow_add]
    have h1 : x * y < 2 ^ p * 2 ^ q := Nat.mul_lt_mul'' hx hy
    exact Nat.mul_lt_mul'' h1 hz
  have f1 : (a.den : Rat) ≠ 0 := fun z => d1 (by exact_mod_cast z)
  have f2 : (b.den : Rat) ≠ 0 := fun z => d2 (by exact_mod_cast z)
  have f3 : (c.den : Rat) ≠ 0 := fun z => d3 (by exact_mod_cast z)
  refine ⟨a.num * (b.den : Int) * (c.den : Int), (a.den : Int) * b.num * (c.den : Int), (a.den : Int) * (b.den : Int) * c.num, 1 / ((a.den : Rat) * (b.den : Rat) * (c.den : Rat)), ⟨?_, ?_, ?_⟩, ?_, ?_, ?_, ?_⟩
  · rw [Int.natAbs_mul, Int.natAbs_mul, Int.natAbs_natCast, Int.natAbs_natCast, show 2 * n + M = n + n + M by omega]
    exact m3 ha.n hb.d hc.d
  · rw [Int.natAbs_mul, Int.natAbs_mul, Int.natAbs_natCast, Int.natAbs_natCast, show 2 * n + M = n + n + M by omega]
    exact m3 ha.d hb.n hc.d
  · rw [Int.natAbs_mul, Int.natAbs_mul, Int.natAbs_natCast, Int.natAbs_natCast, show 2 * n + M = n + n + M by omega]
    exact m3 ha.d hb.d hc.n
  · grind
  · simp only [Rat.intCast_mul, Rat.intCast_natCast]
    grind
  · simp only [Rat.intCast_mul, Rat.intCast_natCast]
    grind
  · simp only [Rat.intCast_mul, Rat.intCast_natCast]
    grind
end Op
namespace Lib
open PySem L2 Fr Op
def edgD (e : Edg) : PyData := .tuple [frD e.1, frD e.2.1, frD e.2.2]
def boxD (x : Box) : PyData := .tuple [frD x.a, frD x.b, frD x.c, frD x.d]
def raysD (cs : List Ray) : PyData := .list (cs.map rayD)
def upE (l : Lim) : Edg := (l.a, l.b, 0 - l.lo)
def dnE (l : Lim) : Edg := (0 - l.a, 0 - l.b, l.hi)
structure LimB (n M : Nat) (l : Lim) : Prop where
  a : Bd n l.a
  b : Bd n l.b
  lo : Bd M l.lo
  hi : Bd M l.hi
  z : l.a = 0 → l.b ≠ 0
structure EdS (n M : Nat) (e : Edg) : Prop where
  a : Bd n e.1
  b : Bd n e.2.1
  c : Bd M e.2.2
  z : e.1 ≠ 0 ∨ e.2.1 ≠ 0
theorem sub0 (q : Rat) : 0 - q = -q := by grind
theorem LimB.up {n M : Nat} {l : Lim} (h : LimB n M l) : EdS n M (upE l) := by
  refine ⟨h.a, h.b, ?_, ?_⟩
  · show Bd M (0 - l.lo)
    rw [sub0]; exact h.lo.neg
  · show l.a ≠ 0 ∨ l.b ≠ 0
    by_cases z : l.a = 0
    · exact .inr (h.z z)
    · exact .inl z
theorem LimB.dn {n M : Nat} {l : Lim} (h : LimB n M l) : EdS n M (dnE l) := by
  refine ⟨?_, ?_, h.hi, ?_⟩
  · show Bd n (0 - l.a)
    rw [sub0]; exact h.a.neg
  · show Bd n (0 - l.b)
    rw [sub0]; exact h.b.neg
  · show 0 - l.a ≠ 0 ∨ 0 - l.b ≠ 0
    by_cases z : l.a = 0
    · right
      have := h.z z
      grind
    · left
      grind
theorem EdS.edb {n M : Nat} {e : Edg} (h : EdS n M e) : EdB (2 * n + M) e := edge_bits h.a h.b h.c
structure Poly (L k : Nat) (ps : List Ray) : Prop where
  es : ES ps
  pb : PolB L ps
  len : ps.length ≤ k
theorem Poly.cut {n M k : Nat} {e : Edg} {ps : List Ray} (h : Poly (2 * n + M) k ps) (he : EdS n M e) : Poly (2 * n + M) (k + 1) (cutS e ps) :=
  ⟨(cutS_ok h.es he.z).1, cutS_bits h.es h.pb he.edb he.z, Nat.le_trans (cut_count h.es he.z) (Nat.add_le_add_right h.len 1)⟩
theorem Poly.rb {L k : Nat} {ps : List Ray} (h : Poly L k ps) : ∀ p ∈ ps, RB (2 * L + 1) p := fun p hp => (h.pb.two p hp).rb
theorem Poly.rn {L k : Nat} {ps : List Ray} (h : Poly L k ps) : ∀ p ∈ ps, Rn (2 * L + 1) p := fun p hp => ⟨(h.rb p hp).y, (h.rb p hp).u⟩
def cutL (ps : List Ray) (l : Lim) : List Ray := cutS (dnE l) (cutS (upE l) ps)
def cutJ (ps : List Ray) (l : Lim) : Nat → List Ray
  | 0 => ps
  | 1 => cutS (upE l) ps
  | _ => cutL ps l
def fieldF (ls : List Lim) (ps : List Ray) : List Ray := ls.foldl cutL ps
def fieldR (ls : List Lim) (x : Box) : List Ray := rotL (fieldF ls (boxC x))
theorem fieldF_snoc {ls : List Lim} {i : Nat} {l : Lim} (h : ls[i]? = some l) (ps : List Ray) : fieldF (ls.take (i + 1)) ps = cutL (fieldF (ls.take i) ps) l := by
  unfold fieldF
  rw [List.take_add_one, h]
  show (ls.take i ++ [l]).foldl cutL ps = _
  rw [List.foldl_append]
  rfl
theorem Poly.lim {n M k : Nat} {l : Lim} {ps : List Ray} (h : Poly (2 * n + M) k ps) (hl : LimB n M l) : Poly (2 * n + M) (k + 2) (cutL ps l) := (h.cut hl.up).cut hl.dn
theorem Poly.all {n M : Nat} : ∀ (ls : List Lim) {k : Nat} {ps : List Ray}, Poly (2 * n + M) k ps → (∀ l ∈ ls, LimB n M l) → Poly (2 * n + M) (k + 2 * ls.length) (fieldF ls ps)
  | [], k, ps, h, _ => h
  | l :: ls, k, ps, h, hl => by
    have := Poly.all ls (h.lim (hl l List.mem_cons_self)) (fun x hx => hl x (List.mem_cons_of_mem _ hx))
    rw [List.length_cons, show k + 2 * (ls.length + 1) = k + 2 + 2 * ls.length by omega]
    exact this
theorem box_poly {L : Nat} {x : Box} (h : x.ok) (b : x.bd L) (h0 : 0 < L) : Poly L 4 (boxC x) := ⟨box_ES h, box_bits h b h0, box_len h⟩
structure FieldOk (n M : Nat) (ls : List Lim) (x : Box) : Prop where
  ok : x.ok
  bd : x.bd (2 * n + M)
  pos : 0 < 2 * n + M
  lim : ∀ l ∈ ls, LimB n M l
def _root_.Op.Pc.fd (m M : Nat) : Pc → Prop
  | .gap d => Bd m d
  | .glass d => Bd m d
  | .stop lo hi => Bd M lo ∧ Bd M hi
theorem fd_bd {m M k : Nat} {p : Pc} (h : p.fd m M) (h1 : m ≤ k) (h2 : M ≤ k) : p.bd k := by
  cases p with
  | gap d => exact Bd.mono h h1
  | glass d => exact Bd.mono h h1
  | stop lo hi => exact ⟨Bd.mono h.1 h2, Bd.mono h.2 h2⟩
theorem fd_rb {m M n : Nat} {r : Ray} : ∀ {p : Pc}, p.fd m M → RB n r → RB (n + m + 1) (p.bent r)
  | .gap _, b, h => Rb.gap h b
  | .glass _, b, h => Rb.glass h b
  | .stop _ _, _, h => Rb.mono h (by omega)
theorem lims_fd {m M : Nat} : ∀ (ps : List Pc) (i n : Nat) (h s : Ray), (∀ p ∈ ps, p.fd m M) → RB n h → RB n s → h.1 * s.2 - s.1 * h.2 = 1 → ∀ l ∈ limsF i ps h s, LimB (n + (ps.length - 1) * (m + 1)) M l
  | [], i, n, h, s, _, _, _, _ => fun l hl => nomatch hl
  | p :: ps, i, n, h, s, hb, rh, rs, dt => fun l hl => by
    have hp := hb p List.mem_cons_self
    rcases List.mem_append.mp hl with h1 | h1
    · cases p with
      | gap d => cases h1
      | glass d => cases h1
      | stop lo hi =>
        have hp : Bd M lo ∧ Bd M hi := hp
        cases List.mem_singleton.mp h1
        refine ⟨rh.y.mono (by omega), rs.y.mono (by omega), hp.1, hp.2, fun z1 z2 => ?_⟩
        have z1 : h.1 = 0 := z1
        have z2 : s.1 = 0 := z2
        rw [z1, z2] at dt
        grind
    · have := lims_fd ps (i + 1) (n + m + 1) (p.bent h) (p.bent s) (fun q hq => hb q (List.mem_cons_of_mem _ hq)) (fd_rb hp rh) (fd_rb hp rs) (by rw [det_bent]; exact dt) l h1
      have e : n + m + 1 + (ps.length - 1) * (m + 1) ≤ n + ((p :: ps).length - 1) * (m + 1) := by
        rw [List.length_cons, Nat.add_sub_cancel]
        cases ps with
        | nil => cases h1
        | cons q qs => rw [List.length_cons, Nat.add_sub_cancel, Nat.add_mul]; omega
      exact ⟨this.a.mono e, this.b.mono e, this.lo, this.hi, this.z⟩
theorem lims_fine {m M : Nat} {ps : List Pc} (hb : ∀ p ∈ ps, p.fd m M) : ∀ l ∈ lims ps, LimB (2 + (ps.length - 1) * (m + 1)) M l := lims_fd ps 0 2 e1 e2 hb rb_e1 rb_e2 (by show (1 : Rat) * 1 - 0 * 0 = 1; grind)
theorem LimB.mono {n M n' M' : Nat} {l : Lim} (h : LimB n M l) (h1 : n ≤ n') (h2 : M ≤ M') : LimB n' M' l := ⟨h.a.mono h1, h.b.mono h1, h.lo.mono h2, h.hi.mono h2, h.z⟩
theorem num_mul (x y : Rat) : x.num * y.num < 0 ↔ x * y < 0 := by
  have h1 := num_den x
  have h2 := num_den y
  have p1 : (0 : Rat) < (x.den : Rat) := by
    have := x.den_pos
    exact_mod_cast this
  have p2 : (0 : Rat) < (y.den : Rat) := by
    have := y.den_pos
    exact_mod_cast this
  have e : ((x.num * y.num : Int) : Rat) = ((x.den : Rat) * (y.den : Rat)) * (x * y) := by
    rw [Rat.intCast_mul, ← h1, ← h2]; grind
  have c : (((x.num * y.num : Int) : Rat) < ((0 : Int) : Rat)) ↔ x.num * y.num < 0 := Rat.intCast_lt_intCast
  rw [← c, e]
  have pp := Rat.mul_pos p1 p2
  generalize (x.den : Rat) * (y.den : Rat) = k at pp ⊢
  show k * (x * y) < 0 ↔ x * y < 0
  generalize x * y = z
  have := nn_of (z := z) pp
  grind
theorem num_nn (x : Rat) : 0 ≤ x.num ↔ 0 ≤ x := Rat.num_nonneg
def stepC (e : Edg) (left : List Ray) (x : Ray × Ray) : List Ray := (if roomR e x.1 * roomR e x.2 < 0 ∧ crossP e x.1 x.2 ∉ left then left ++ [crossP e x.1 x.2] else left) ++ (if 0 ≤ roomR e x.2 then [x.2] else [])
theorem cutG_fold (e : Edg) : ∀ (xs : List (Ray × Ray)) (left : List Ray), cutG e xs left = xs.foldl (stepC e) left
  | [], left => rfl
  | x :: r, left => by
    rw [cutG, cutG_fold e r]
    rfl
def cutI (e : Edg) (ps : List Ray) (i : Nat) : List Ray := ((edgesR ps).take i).foldl (stepC e) []
theorem cutI_succ (e : Edg) {ps : List Ray} {i : Nat} (h : i < ps.length) : cutI e ps (i + 1) = stepC e (cutI e ps i) (prevR ps i, atR ps i) := by
  unfold cutI
  rw [List.take_add_one, edges_at h]
  show ((edgesR ps).take i ++ [(prevR ps i, atR ps i)]).foldl (stepC e) [] = _
  rw [List.foldl_append]
  rfl
theorem cutI_len (e : Edg) (ps : List Ray) : cutI e ps ps.length = cutS e ps := by
  unfold cutI cutS
  rw [cutG_fold, ← edges_len, List.take_length]
theorem stepC_len (e : Edg) (left : List Ray) (x : Ray × Ray) : (stepC e left x).length ≤ left.length + 2 := by
  unfold stepC
  rw [List.length_append]
  have h1 : (if roomR e x.1 * roomR e x.2 < 0 ∧ crossP e x.1 x.2 ∉ left then left ++ [crossP e x.1 x.2] else left).length ≤ left.length + 1 := by
    split
    · rw [List.length_append]; simp
    · omega
  have h2 : (if 0 ≤ roomR e x.2 then [x.2] else []).length ≤ 1 := by
    split
    · simp
    · simp
  omega
theorem fold_len (e : Edg) : ∀ (xs : List (Ray × Ray)) (left : List Ray), (xs.foldl (stepC e) left).length ≤ left.length + 2 * xs.length
  | [], left => by simp
  | x :: r, left => by
    have := fold_len e r (stepC e left x)
    have h2 := stepC_len e left x
    rw [List.foldl_cons, List.length_cons]
    omega
theorem cutI_le (e : Edg) (ps : List Ray) (i : Nat) : (cutI e ps i).length ≤ 2 * i := by
  have h := fold_len e ((edgesR ps).take i) []
  have h2 : ((edgesR ps).take i).length ≤ i := by rw [List.length_take]; omega
  simp only [List.length_nil] at h
  unfold cutI
  omega
def dedI (cs : List Ray) (i : Nat) : List Ray := (cs.take i).foldl (fun acc c => if c ∈ acc then acc else acc ++ [c]) []
theorem dedup_fold : ∀ (cs acc : List Ray), dedup cs acc = cs.foldl (fun acc c => if c ∈ acc then acc else acc ++ [c]) acc
  | [], acc => rfl
  | c :: cs, acc => by rw [dedup, dedup_fold cs]; rfl
theorem dedI_succ {cs : List Ray} {i : Nat} {c : Ray} (h : cs[i]? = some c) : dedI cs (i + 1) = if c ∈ dedI cs i then dedI cs i else dedI cs i ++ [c] := by
  unfold dedI
  rw [List.take_add_one, h]
  show (cs.take i ++ [c]).foldl _ [] = _
  rw [List.foldl_append]
  rfl
theorem dedI_len (cs : List Ray) : dedI cs cs.length = dedup cs [] := by
  unfold dedI
  rw [dedup_fold, List.take_length]
theorem dedI_le (cs : List Ray) : ∀ i, (dedI cs i).length ≤ i
  | 0 => by simp [dedI]
  | i + 1 => by
    have ih := dedI_le cs i
    cases h : cs[i]? with
    | none =>
      unfold dedI at ih ⊢
      rw [List.take_add_one, h]
      simp only [Option.toList, List.append_nil]
      omega
    | some c =>
      rw [dedI_succ h]
      split
      · omega
      · rw [List.length_append]; simp; omega
theorem mem_any (cs : List Ray) (r : Ray) : cs.any (fun c => decide (c = r)) = decide (r ∈ cs) := by
  rw [Bool.eq_iff_iff, List.any_eq_true, decide_eq_true_iff]
  constructor
  · rintro ⟨c, hc, e⟩
    rw [decide_eq_true_iff] at e
    exact e ▸ hc
  · intro h
    exact ⟨r, h, by simp⟩
def RStrch : List PyData → PyData → Prop := fun ds d => ∃ p q, ds = [frD p, frD q] ∧ Sm p ∧ Sm q ∧ p ≤ q ∧ d = .bool true
def RIsBox : List PyData → PyData → Prop := fun ds d => ∃ x n, ds = [boxD x] ∧ x.ok ∧ x.bd n ∧ n ≤ 4000 ∧ d = .bool true
def RLookBox : List PyData → PyData → Prop := fun ds d => ∃ x n, ds = [boxD x] ∧ x.ok ∧ x.bd n ∧ n ≤ 4000 ∧ d = .none
def RCorn : List PyData → PyData → Prop := fun ds d => ∃ x, ds = [boxD x] ∧ d = raysD (boxC x)
def REdges : List PyData → PyData → Prop := fun ds d => ∃ l n M, ds = [limD l] ∧ LimB n M l ∧ n ≤ 4000 ∧ M ≤ 4000 ∧ d = .list [edgD (upE l), edgD (dnE l)]
def RRoom : List PyData → PyData → Prop := fun ds d => ∃ e r n M c, ds = [edgD e, rayD r] ∧ EdS n M e ∧ Rn c r ∧ 2 * (c + n) + M + 2 ≤ 4000 ∧ d = frD (roomR e r)
def RCross : List PyData → PyData → Prop := fun ds d => ∃ p q x y c k, ds = [rayD p, rayD q, frD x, frD y] ∧ Rn c p ∧ Rn c q ∧ Bd k x ∧ Bd k y ∧ x - y ≠ 0 ∧ 3 * k + 2 * c + 2 ≤ 4000 ∧ d = rayD (mixR (x / (x - y)) p q)
def RCut : List PyData → PyData → Prop := fun ds d => ∃ e ps n M c, ds = [edgD e, raysD ps] ∧ EdS n M e ∧ (∀ p ∈ ps, Rn c p) ∧ 3 * (2 * (c + n) + M + 2) + 2 * c + 2 ≤ 4000 ∧ ps.length ≤ 200 ∧ d = raysD (cutS e ps)
def spFrom (K : PySem.W.Frag) : Sp := fun vs H Q _ => ∃ (v : V) (cs : List Ray) (n : Nat), vs = [v] ∧ DV K H v (raysD cs) ∧ (∀ c ∈ cs, Rn n c) ∧ n ≤ 4000 ∧ cs.length ≤ 200 ∧ ∀ l rs H', Same H H' → H l = none → H' l = some (.lst rs) → DVs K H' rs ((rotL cs).map rayD) → Q (.ref l) H'
def spField (K : PySem.W.Frag) : Sp := fun vs H Q _ => ∃ (v u : V) (ps : List Pc) (x : Box) (m n M : Nat), vs = [v, u] ∧ DV K H v (benchD ps) ∧ DV K H u (boxD x) ∧ Good m ps ∧ 2 + ps.length * (m + 1) + m ≤ 3900 ∧ FieldOk n M (lims ps) x ∧ 38 * n + 19 * M + 16 ≤ 4000 ∧ ∀ l rs H', Same H H' → H l = none → H' l = some (.lst rs) → DVs K H' rs ((fieldR (lims ps) x).map rayD) → Q (.ref l) H'
theorem DV.t4b {K : PySem.W.Frag} {H : Hp} {v : V} {x : Box} (h : DV K H v (boxD x)) : ∃ a x1 x2 x3 x4, v = .ref a ∧ SqT K H a [x1, x2, x3, x4] ∧ DV K H x1 (frD x.a) ∧ DV K H x2 (frD x.b) ∧ DV K H x3 (frD x.c) ∧ DV K H x4 (frD x.d) := by
  obtain ⟨a, xs, rfl, ha, hxs⟩ := DV.tup_of h
  obtain ⟨x1, x2, x3, x4, rfl, h1, h2, h3, h4⟩ := hxs.four
  exact ⟨a, x1, x2, x3, x4, rfl, ha, h1, h2, h3, h4⟩
theorem DV.t3e {K : PySem.W.Frag} {H : Hp} {v : V} {e : Edg} (h : DV K H v (edgD e)) : ∃ a x y z, v = .ref a ∧ SqT K H a [x, y, z] ∧ DV K H x (frD e.1) ∧ DV K H y (frD e.2.1) ∧ DV K H z (frD e.2.2) := by
  obtain ⟨a, xs, rfl, ha, hxs⟩ := DV.tup_of h
  obtain ⟨x, y, z, rfl, h1, h2, h3⟩ := hxs.three
  exact ⟨a, x, y, z, rfl, ha, h1, h2, h3⟩
end Lib
namespace Lib
open PySem L2 Fr Op
theorem fr_at {K : PySem.W.Frag} {H : Hp} {v : V} {q : Rat} (h : DV K H v (frD q)) : ∃ a, v = .ref a ∧ SqT K H a [.int q.num, .int (q.den : Int)] := by
  obtain ⟨a, xs, rfl, ha, hxs⟩ := DV.tup_of h
  obtain ⟨x, y, rfl, h1, h2⟩ := hxs.two
  obtain rfl := h1.int_of
  obtain rfl := h2.int_of
  exact ⟨a, rfl, ha⟩
theorem dvs_room {K : PySem.W.Frag} {H : Hp} {rs : List V} {ps : List Ray} {e : Edg} (h : DVs K H rs ((ps.map (roomR e)).map frD)) {i : Nat} (hi : i < ps.length) : ∃ v, rs[i]? = some v ∧ DV K H v (frD (roomR e (atR ps i))) := by
  have hl := h.len
  rw [List.length_map, List.length_map] at hl
  obtain ⟨d, hd, hv⟩ := h.get (i := i) (List.getElem?_eq_getElem (show i < rs.length by omega))
  rw [List.getElem?_map, List.getElem?_map, List.getElem?_eq_getElem hi] at hd
  have e1 : atR ps i = ps[i] := atR_of (List.getElem?_eq_getElem hi)
  cases hd
  rw [e1]
  exact ⟨_, List.getElem?_eq_getElem (show i < rs.length by omega), hv⟩
theorem dvs_rprev {K : PySem.W.Frag} {H : Hp} {rs : List V} {ps : List Ray} {e : Edg} (h : DVs K H rs ((ps.map (roomR e)).map frD)) {i : Nat} (hi : i < ps.length) : ∃ v, atI rs ((i : Int) - 1) = some v ∧ DV K H v (frD (roomR e (prevR ps i))) := by
  have hl := h.len
  rw [List.length_map, List.length_map] at hl
  cases i with
  | zero =>
    obtain ⟨v, hv, hd⟩ := dvs_room h (i := ps.length - 1) (by omega)
    refine ⟨v, ?_, hd⟩
    rw [show (((0 : Nat) : Int) - 1) = -1 from rfl]
    exact atI_m1 (by rw [hl]; exact hv)
  | succ j =>
    obtain ⟨v, hv, hd⟩ := dvs_room h (i := j) (by omega)
    refine ⟨v, ?_, hd⟩
    rw [show (((j + 1 : Nat) : Int) - 1) = (j : Int) by omega]
    exact atI_nat hv
theorem sqT_keepT {K : PySem.W.Frag} {H H' : Hp} (s : SameT H H') {a : Addr} {xs : List V} (h : SqT K H a xs) : SqT K H' a xs := by
  rcases h with (h | ⟨o, h⟩) | h
  · exact .inl (.inl ((s _ _).1 h))
  · exact .inl (.inr ⟨o, (s _ _).2 o h⟩)
  · exact .inr h
end Lib
namespace L2
open PySem PySem.Spec PyProof.Rows PySem.Builtin
end L2
namespace Lib
open PySem L2 Fr Op
def spLPs (K : PySem.W.Frag) : Sp := fun vs H Q _ => ∃ c : Int, vs = [.int c] ∧ ∀ v H' (p : Pc), Same H H' → DV K H' v (pcD p) → p.ok → p.fd 7 15 → Q v H'
def spLBf (K : PySem.W.Frag) : Sp := fun vs H Q _ => ∃ (a : Addr) (ns : List Int), vs = [.ref a] ∧ SqL K H a (ns.map V.int) ∧ ns.length ≤ 60 ∧ ∀ l H' xs (ps : List Pc), Same H H' → H l = none → H' l = some (.lst xs) → DVs K H' xs (ps.map pcD) → ps.length ≤ ns.length → (∀ p ∈ ps, p.ok) → (∀ p ∈ ps, p.fd 7 15) → Q (.ref l) H'
def spBoxC (K : PySem.W.Frag) : Sp := fun vs H Q _ => ∃ c o : Int, vs = [.int c, .int o] ∧ ∀ v H' (x : Box), Same H H' → DV K H' v (boxD x) → x.ok → x.bd 15 → Q v H'
theorem good_fd {ps : List Pc} (ok : ∀ p ∈ ps, p.ok) (fd : ∀ p ∈ ps, p.fd 7 15) (h : ps.length ≤ 8) : Good 15 ps := ⟨by omega, ok, fun p hp => fd_bd (fd p hp) (by decide) (by decide)⟩
theorem field_fd {ps : List Pc} {x : Box} (fd : ∀ p ∈ ps, p.fd 7 15) (h : ps.length ≤ 8) (o : x.ok) (b : x.bd 15) : FieldOk 58 15 (lims ps) x :=
  ⟨o, ⟨b.a.mono (by decide), b.b.mono (by decide), b.c.mono (by decide), b.d.mono (by decide)⟩, by decide, fun l hl => (lims_fine fd l hl).mono (by omega) (Nat.le_refl _)⟩
end Lib
namespace L2
open PySem PySem.Spec PyProof.Rows PySem.Builtin
end L2
namespace Op
open Fr
end Op
namespace Lib
open PySem L2 Fr Op
end Lib
namespace Op
open Fr
end Op
namespace L2
open PySem PySem.Spec PyProof.Rows PySem.Builtin
end L2
namespace Lib
open PySem L2 Fr Op
end Lib
namespace Op
open Fr
end Op
namespace Lib
open PySem L2 Fr Op
end Lib
namespace Lib
open PySem L2 Fr Op
end Lib
namespace Lib
open PySem L2 Fr Op
inductive StrB : PyData → PyData → Bool → Prop
  | yes {p q : Rat} : Sm p → Sm q → p ≤ q → StrB (frD p) (frD q) true
  | turned {p q : Rat} : Sm p → Sm q → q < p → StrB (frD p) (frD q) false
  | one {d e : PyData} : ratD d = false → StrB d e false
  | two {p : Rat} {e : PyData} : ratD e = false → StrB (frD p) e false
inductive BadBox : PyData → Prop
  | kind {d : PyData} : isTupD d = false → BadBox d
  | many {ds : List PyData} : ds.length ≠ 4 → BadBox (.tuple ds)
  | fst {a b c d : PyData} : StrB a b false → BadBox (.tuple [a, b, c, d])
  | snd {a b c d : PyData} : StrB a b true → StrB c d false → BadBox (.tuple [a, b, c, d])
def spStrX (K : PySem.W.Frag) : Sp := fun vs H Q _ => ∃ (x y : V) (d e : PyData) (b : Bool), vs = [x, y] ∧ DV K H x d ∧ DV K H y e ∧ StrB d e b ∧ ∀ H', Same H H' → Q (.bl b) H'
def spIsBoxX (K : PySem.W.Frag) : Sp := fun vs H Q _ => ∃ (x : V) (d : PyData), vs = [x] ∧ DV K H x d ∧ BadBox d ∧ ∀ H', Same H H' → Q (.bl false) H'
def spLookBoxX (K : PySem.W.Frag) (C : Addr) : Sp := fun vs H _ E => ∃ (x : V) (d : PyData), vs = [x] ∧ DV K H x d ∧ BadBox d ∧ ∀ H', Same H H' → E (.ref C) none H'
def spFieldX (K : PySem.W.Frag) (N C : Addr) : Sp := fun vs H _ E => ∃ (v u : V), vs = [v, u] ∧ ((∃ d o, DV K H v d ∧ RefB d o ∧ RaisedAt H N o E) ∨ ∃ (ps : List Pc) (e : PyData), DV K H v (benchD ps) ∧ DV K H u e ∧ Good 15 ps ∧ ps.length ≤ 8 ∧ BadBox e ∧ ∀ H', Same H H' → E (.ref C) none H')
theorem rat_fr (q : Rat) : ratD (frD q) = true := by
  have h := ratD_fr q
  exact h
def spRef42 (K : PySem.W.Frag) : Sp := fun vs H Q _ => ∃ (fn : Str) (bv xv dv : V), vs = [.str fn, bv, xv, dv] ∧
  ((∃ (d : PyData) (o : Option Nat) (t : Addr), (fn = "limits" ∨ fn = "field") ∧ DV K H bv d ∧ RefB d o ∧ dv = .ref t ∧ SqT K H t [atV o]) ∨ ∃ (ps : List Pc) (e : PyData), fn = "field" ∧ DV K H bv (benchD ps) ∧ DV K H xv e ∧ Good 15 ps ∧ ps.length ≤ 8 ∧ BadBox e ∧ dv = .str "box") ∧ ∀ H', Same H H' → Q (.bl true) H'
def spWrongB (K : PySem.W.Frag) : Sp := fun vs H Q _ => ∃ (v : V) (x : Box) (z : Int), vs = [v, .int z] ∧ DV K H v (boxD x) ∧ x.ok ∧ x.bd 15 ∧ ∀ w d H', Same H H' → DV K H' w d → BadBox d → Q w H'
def spSpoilt (K : PySem.W.Frag) : Sp := fun vs H Q _ => ∃ (lb : Addr) (xs : List V) (ps : List Pc) (z : Int), vs = [.ref lb, .int z] ∧ H lb = some (.lst xs) ∧ DVs K H xs (ps.map pcD) ∧ Good 15 ps ∧ ps.length ≤ 8 ∧ ∀ t w H' d o, Same H H' → SqT K H' t [w, atV o] → DV K H' w d → RefB d o → Q (.ref t) H'
theorem dv_atV {K : PySem.W.Frag} {H : Hp} (o : Option Nat) : DV K H (atV o) (optD o) := dv_at o
end Lib
namespace K42
open PySem L2 Lib Fr Op
seal PE PT PW PA PS PSs PG PGs PI PO
def top (i : Nat) : Stmt := PySem.Challenge.pw_grindbench_k42_boxes_refused.main.body.getD i (.Pass ⟨0, 0, 0, 0⟩)
abbrev s_is_whole : Stmt := top 12
theorem sc_is_whole : FnScope ["thing"] ["thing"] (defScope s_is_whole) := ⟨rfl, rfl, rfl, by decide +kernel, rfl, by decide +kernel, by decide +kernel⟩
abbrev s_common_divisor : Stmt := top 13
theorem sc_common_divisor : FnScope ["one", "other", "greater", "lesser", "rest"] ["one", "other"] (defScope s_common_divisor) := ⟨rfl, rfl, rfl, by decide +kernel, rfl, by decide +kernel, by decide +kernel⟩
abbrev s_is_ratio : Stmt := top 14
theorem sc_is_ratio : FnScope ["thing", "top", "bottom"] ["thing"] (defScope s_is_ratio) := ⟨rfl, rfl, rfl, by decide +kernel, rfl, by decide +kernel, by decide +kernel⟩
abbrev s_ratio_of : Stmt := top 15
theorem sc_ratio_of : FnScope ["top", "bottom", "divisor"] ["top", "bottom"] (defScope s_ratio_of) := ⟨rfl, rfl, rfl, by decide +kernel, rfl, by decide +kernel, by decide +kernel⟩
abbrev s_sum_of : Stmt := top 16
theorem sc_sum_of : FnScope ["one", "other"] ["one", "other"] (defScope s_sum_of) := ⟨rfl, rfl, rfl, by decide +kernel, rfl, by decide +kernel, by decide +kernel⟩
abbrev s_less_by : Stmt := top 17
theorem sc_less_by : FnScope ["one", "other"] ["one", "other"] (defScope s_less_by) := ⟨rfl, rfl, rfl, by decide +kernel, rfl, by decide +kernel, by decide +kernel⟩
abbrev s_product_of : Stmt := top 18
theorem sc_product_of : FnScope ["one", "other"] ["one", "other"] (defScope s_product_of) := ⟨rfl, rfl, rfl, by decide +kernel, rfl, by decide +kernel, by decide +kernel⟩
abbrev s_quotient_of : Stmt := top 19
theorem sc_quotient_of : FnScope ["one", "other"] ["one", "other"] (defScope s_quotient_of) := ⟨rfl, rfl, rfl, by decide +kernel, rfl, by decide +kernel, by decide +kernel⟩
abbrev s_is_less : Stmt := top 20
theorem sc_is_less : FnScope ["one", "other"] ["one", "other"] (defScope s_is_less) := ⟨rfl, rfl, rfl, by decide +kernel, rfl, by decide +kernel, by decide +kernel⟩
abbrev s_is_stretch : Stmt := top 22
theorem sc_is_stretch : FnScope ["first", "last"] ["first", "last"] (defScope s_is_stretch) := ⟨rfl, rfl, rfl, by decide +kernel, rfl, by decide +kernel, by decide +kernel⟩
abbrev s_is_box : Stmt := top 23
theorem sc_is_box : FnScope ["thing"] ["thing"] (defScope s_is_box) := ⟨rfl, rfl, rfl, by decide +kernel, rfl, by decide +kernel, by decide +kernel⟩
abbrev s_look_at_box : Stmt := top 24
theorem sc_look_at_box : FnScope ["box"] ["box"] (defScope s_look_at_box) := ⟨rfl, rfl, rfl, by decide +kernel, rfl, by decide +kernel, by decide +kernel⟩
abbrev s_is_piece : Stmt := top 34
theorem sc_is_piece : FnScope ["thing"] ["thing"] (defScope s_is_piece) := ⟨rfl, rfl, rfl, by decide +kernel, rfl, by decide +kernel, by decide +kernel⟩
abbrev s_piece_of : Stmt := top 35
theorem sc_piece_of : FnScope ["told"] ["told"] (defScope s_piece_of) := ⟨rfl, rfl, rfl, by decide +kernel, rfl, by decide +kernel, by decide +kernel⟩
abbrev s_look_at : Stmt := top 36
theorem sc_look_at : FnScope ["bench", "number", "thing"] ["bench"] (defScope s_look_at) := ⟨rfl, rfl, rfl, by decide +kernel, rfl, by decide +kernel, by decide +kernel⟩
abbrev s_limits_of : Stmt := top 40
theorem sc_limits_of : FnScope ["bench", "limits", "high", "slanted", "number", "told", "piece"] ["bench"] (defScope s_limits_of) := ⟨rfl, rfl, rfl, by decide +kernel, rfl, by decide +kernel, by decide +kernel⟩
abbrev s_is_before : Stmt := top 42
theorem sc_is_before : FnScope ["one", "other"] ["one", "other"] (defScope s_is_before) := ⟨rfl, rfl, rfl, by decide +kernel, rfl, by decide +kernel, by decide +kernel⟩
abbrev s_corners_of : Stmt := top 43
theorem sc_corners_of : FnScope ["box", "corners", "corner"] ["box"] (defScope s_corners_of) := ⟨rfl, rfl, rfl, by decide +kernel, rfl, by decide +kernel, by decide +kernel⟩
abbrev s_edges_of : Stmt := top 44
theorem sc_edges_of : FnScope ["limit", "a", "b", "above", "below"] ["limit"] (defScope s_edges_of) := ⟨rfl, rfl, rfl, by decide +kernel, rfl, by decide +kernel, by decide +kernel⟩
abbrev s_room_at : Stmt := top 45
theorem sc_room_at : FnScope ["edge", "ray"] ["edge", "ray"] (defScope s_room_at) := ⟨rfl, rfl, rfl, by decide +kernel, rfl, by decide +kernel, by decide +kernel⟩
abbrev s_crossing_of : Stmt := top 46
theorem sc_crossing_of : FnScope ["one", "other", "one_room", "other_room", "part", "height", "slant"] ["one", "other", "one_room", "other_room"] (defScope s_crossing_of) := ⟨rfl, rfl, rfl, by decide +kernel, rfl, by decide +kernel, by decide +kernel⟩
abbrev s_cut_by : Stmt := top 47
theorem sc_cut_by : FnScope ["edge", "corners", "rooms", "left", "number", "corner", "before", "crossing"] ["edge", "corners"] (defScope s_cut_by) := ⟨rfl, rfl, rfl, by decide +kernel, rfl, by decide +kernel, by decide +kernel⟩
abbrev s_from_the_least : Stmt := top 48
theorem sc_from_the_least : FnScope ["corners", "least", "number", "corner"] ["corners"] (defScope s_from_the_least) := ⟨rfl, rfl, rfl, by decide +kernel, rfl, by decide +kernel, by decide +kernel⟩
abbrev s_field_of : Stmt := top 49
theorem sc_field_of : FnScope ["bench", "box", "limits", "corners", "limit", "edge"] ["bench", "box"] (defScope s_field_of) := ⟨rfl, rfl, rfl, by decide +kernel, rfl, by decide +kernel, by decide +kernel⟩
abbrev s__law_cell_at : Stmt := top 51
theorem sc__law_cell_at : FnScope ["_law_script", "_law_k"] ["_law_script", "_law_k"] (defScope s__law_cell_at) := ⟨rfl, rfl, rfl, by decide +kernel, rfl, by decide +kernel, by decide +kernel⟩
abbrev s__law_mix : Stmt := top 52
theorem sc__law_mix : FnScope ["_law_cell", "_law_by", "_law_many"] ["_law_cell", "_law_by", "_law_many"] (defScope s__law_mix) := ⟨rfl, rfl, rfl, by decide +kernel, rfl, by decide +kernel, by decide +kernel⟩
abbrev s__law_ratio : Stmt := top 53
theorem sc__law_ratio : FnScope ["_law_cell", "_law_by", "_law_number"] ["_law_cell", "_law_by"] (defScope s__law_ratio) := ⟨rfl, rfl, rfl, by decide +kernel, rfl, by decide +kernel, by decide +kernel⟩
abbrev s__law_stop : Stmt := top 54
theorem sc__law_stop : FnScope ["_law_cell", "_law_low"] ["_law_cell"] (defScope s__law_stop) := ⟨rfl, rfl, rfl, by decide +kernel, rfl, by decide +kernel, by decide +kernel⟩
abbrev s__law_bench : Stmt := top 55
theorem sc__law_bench : FnScope ["_law_cells", "_law_bench_here", "_law_cell", "_law_way"] ["_law_cells"] (defScope s__law_bench) := ⟨rfl, rfl, rfl, by decide +kernel, rfl, by decide +kernel, by decide +kernel⟩
abbrev s__law_box : Stmt := top 56
theorem sc__law_box : FnScope ["_law_cell", "_law_other", "_law_low", "_law_first", "_law_wide", "_law_steep"] ["_law_cell", "_law_other"] (defScope s__law_box) := ⟨rfl, rfl, rfl, by decide +kernel, rfl, by decide +kernel, by decide +kernel⟩
abbrev s__law_wrong : Stmt := top 57
theorem sc__law_wrong : FnScope ["_law_box_here", "_law_cell", "_law_a", "_law_b", "_law_c", "_law_d", "_law_odd", "_law_more", "_law_some"] ["_law_box_here", "_law_cell"] (defScope s__law_wrong) := ⟨rfl, rfl, rfl, by decide +kernel, rfl, by decide +kernel, by decide +kernel⟩
abbrev s__law_no_bench : Stmt := top 58
theorem sc__law_no_bench : FnScope ["_law_bench_here", "_law_cell", "_law_at", "_law_odd"] ["_law_bench_here", "_law_cell"] (defScope s__law_no_bench) := ⟨rfl, rfl, rfl, by decide +kernel, rfl, by decide +kernel, by decide +kernel⟩
abbrev s__law_refused : Stmt := top 59
theorem sc__law_refused : FnScope ["_law_function", "_law_bench_here", "_law_box_here", "_law_due", "_law_told", "e", "_law_truths"] ["_law_function", "_law_bench_here", "_law_box_here", "_law_due"] (defScope s__law_refused) := ⟨rfl, rfl, rfl, by decide +kernel, rfl, by decide +kernel, by decide +kernel⟩
abbrev s_law : Stmt := top 60
theorem sc_law : FnScope ["_law_script", "_law_bench_here", "_law_box_here", "_law_told", "_law_cell", "_law_wrong_here", "_law_spoilt", "_law_at"] ["_law_script"] (defScope s_law) := ⟨rfl, rfl, rfl, by decide +kernel, rfl, by decide +kernel, by decide +kernel⟩
abbrev s_NoBench_init : Stmt := inClass (top 10) 0
theorem sc_NoBench_init : FnScope ["self", "at"] ["self", "at"] (defScope s_NoBench_init) := ⟨rfl, rfl, rfl, by decide +kernel, rfl, by decide +kernel, by decide +kernel⟩
abbrev s_Piece_bent : Stmt := inClass (top 30) 1
theorem sc_Piece_bent : FnScope ["self", "ray"] ["self", "ray"] (defScope s_Piece_bent) := ⟨rfl, rfl, rfl, by decide +kernel, rfl, by decide +kernel, by decide +kernel⟩
abbrev s_Gap_init : Stmt := inClass (top 31) 0
theorem sc_Gap_init : FnScope ["self", "length"] ["self", "length"] (defScope s_Gap_init) := ⟨rfl, rfl, rfl, by decide +kernel, rfl, by decide +kernel, by decide +kernel⟩
abbrev s_Gap_bent : Stmt := inClass (top 31) 1
theorem sc_Gap_bent : FnScope ["self", "ray"] ["self", "ray"] (defScope s_Gap_bent) := ⟨rfl, rfl, rfl, by decide +kernel, rfl, by decide +kernel, by decide +kernel⟩
abbrev s_Glass_init : Stmt := inClass (top 32) 0
theorem sc_Glass_init : FnScope ["self", "strength"] ["self", "strength"] (defScope s_Glass_init) := ⟨rfl, rfl, rfl, by decide +kernel, rfl, by decide +kernel, by decide +kernel⟩
abbrev s_Glass_bent : Stmt := inClass (top 32) 1
theorem sc_Glass_bent : FnScope ["self", "ray"] ["self", "ray"] (defScope s_Glass_bent) := ⟨rfl, rfl, rfl, by decide +kernel, rfl, by decide +kernel, by decide +kernel⟩
abbrev s_Stop_init : Stmt := inClass (top 33) 0
theorem sc_Stop_init : FnScope ["self", "low", "high"] ["self", "low", "high"] (defScope s_Stop_init) := ⟨rfl, rfl, rfl, by decide +kernel, rfl, by decide +kernel, by decide +kernel⟩
structure Adr where
  z0 : Nat := 0
  BenchError : Addr
  NoNumber : Addr
  NoText : Addr
  NoTable : Addr
  NoBox : Addr
  NoStock : Addr
  NoWish : Addr
  NoRow : Addr
  Unknown : Addr
  NoBench : Addr
  Piece : Addr
  Gap : Addr
  Glass : Addr
  Stop : Addr
  NOUGHT : Addr
  ONE : Addr
  tGAP : Tok
  tGLASS : Tok
  tSTOP : Tok
  tMOST_PIECES : Tok
structure Exc (K : PySem.W.Frag) (mg : Str → Option Value) (ad : Adr) : Prop where
  tt : True := trivial
  m_BenchError : mg "BenchError" = some (.ref ad.BenchError)
  m_NoNumber : mg "NoNumber" = some (.ref ad.NoNumber)
  m_NoText : mg "NoText" = some (.ref ad.NoText)
  m_NoTable : mg "NoTable" = some (.ref ad.NoTable)
  m_NoBox : mg "NoBox" = some (.ref ad.NoBox)
  m_NoStock : mg "NoStock" = some (.ref ad.NoStock)
  m_NoWish : mg "NoWish" = some (.ref ad.NoWish)
  m_NoRow : mg "NoRow" = some (.ref ad.NoRow)
  m_Unknown : mg "Unknown" = some (.ref ad.Unknown)
  m_NoBench : mg "NoBench" = some (.ref ad.NoBench)
  m_Piece : mg "Piece" = some (.ref ad.Piece)
  m_Gap : mg "Gap" = some (.ref ad.Gap)
  m_Glass : mg "Glass" = some (.ref ad.Glass)
  m_Stop : mg "Stop" = some (.ref ad.Stop)
  m_GAP : mg "GAP" = some (.str "gap" ad.tGAP)
  m_GLASS : mg "GLASS" = some (.str "glass" ad.tGLASS)
  m_STOP : mg "STOP" = some (.str "stop" ad.tSTOP)
  m_MOST_PIECES : mg "MOST_PIECES" = some (.int 60 ad.tMOST_PIECES)
  c_NoBox : ExcCls K mg "NoBox" ad.NoBox
  x_NoBox_BenchError : PySem.W.exmOne K (.ref ad.NoBox) (.ref ad.BenchError) = some true
  x_NoBench_BenchError : PySem.W.exmOne K (.ref ad.NoBench) (.ref ad.BenchError) = some true
  k_NoBox_NoBench : PySem.W.kitOne K (.ref ad.NoBox) (.ref ad.NoBench) = some false
  k_NoBox_NoBox : PySem.W.kitOne K (.ref ad.NoBox) (.ref ad.NoBox) = some true
  k_NoBox_ValueError : PySem.W.kitOne K (.ref ad.NoBox) (.type "ValueError") = some true
  k_NoBox_NoNumber : PySem.W.kitOne K (.ref ad.NoBox) (.ref ad.NoNumber) = some false
  k_NoBox_NoRow : PySem.W.kitOne K (.ref ad.NoBox) (.ref ad.NoRow) = some false
  k_NoBox_NoStock : PySem.W.kitOne K (.ref ad.NoBox) (.ref ad.NoStock) = some false
  k_NoBox_NoTable : PySem.W.kitOne K (.ref ad.NoBox) (.ref ad.NoTable) = some false
  k_NoBox_NoText : PySem.W.kitOne K (.ref ad.NoBox) (.ref ad.NoText) = some false
  k_NoBox_NoWish : PySem.W.kitOne K (.ref ad.NoBox) (.ref ad.NoWish) = some false
  k_NoBox_Unknown : PySem.W.kitOne K (.ref ad.NoBox) (.ref ad.Unknown) = some false
  k_NoBench_NoBench : PySem.W.kitOne K (.ref ad.NoBench) (.ref ad.NoBench) = some true
  k_NoBench_NoBox : PySem.W.kitOne K (.ref ad.NoBench) (.ref ad.NoBox) = some false
  k_NoBench_ValueError : PySem.W.kitOne K (.ref ad.NoBench) (.type "ValueError") = some true
  k_NoBench_NoNumber : PySem.W.kitOne K (.ref ad.NoBench) (.ref ad.NoNumber) = some false
  k_NoBench_NoRow : PySem.W.kitOne K (.ref ad.NoBench) (.ref ad.NoRow) = some false
  k_NoBench_NoStock : PySem.W.kitOne K (.ref ad.NoBench) (.ref ad.NoStock) = some false
  k_NoBench_NoTable : PySem.W.kitOne K (.ref ad.NoBench) (.ref ad.NoTable) = some false
  k_NoBench_NoText : PySem.W.kitOne K (.ref ad.NoBench) (.ref ad.NoText) = some false
  k_NoBench_NoWish : PySem.W.kitOne K (.ref ad.NoBench) (.ref ad.NoWish) = some false
  k_NoBench_Unknown : PySem.W.kitOne K (.ref ad.NoBench) (.ref ad.Unknown) = some false
  e_NoBox : ExcK K ad.NoBox
  e_NoBench : ExcK K ad.NoBench
  l_Gap : Cls K ad.Gap
  i_Gap : MkFn K mg "Gap" ad.Gap "Gap.__init__" s_Gap_init
  q_Gap_bent : MtFn K ad.Gap "bent" "Gap.bent" s_Gap_bent
  n_Gap_length : NoAttr K ad.Gap "length"
  l_Glass : Cls K ad.Glass
  i_Glass : MkFn K mg "Glass" ad.Glass "Glass.__init__" s_Glass_init
  q_Glass_bent : MtFn K ad.Glass "bent" "Glass.bent" s_Glass_bent
  n_Glass_strength : NoAttr K ad.Glass "strength"
  l_Stop : Cls K ad.Stop
  i_Stop : MkFn K mg "Stop" ad.Stop "Stop.__init__" s_Stop_init
  q_Stop_bent : MtFn K ad.Stop "bent" "Piece.bent" s_Piece_bent
  n_Stop_low : NoAttr K ad.Stop "low"
  n_Stop_high : NoAttr K ad.Stop "high"
  j_NoBench : XFn K mg "NoBench" ad.NoBench ad.BenchError "NoBench.__init__" s_NoBench_init
  m_NOUGHT : mg "NOUGHT" = some (.ref ad.NOUGHT)
  s_NOUGHT : ∀ H : Hp, SqT K H ad.NOUGHT [.int 0, .int 1]
  m_ONE : mg "ONE" = some (.ref ad.ONE)
  s_ONE : ∀ H : Hp, SqT K H ad.ONE [.int 1, .int 1]
structure Txt (K : PySem.W.Frag) (mg : Str → Option Value) (ad : Adr) : Prop where
  ex : Exc K mg ad
  ValueError : mg "ValueError" = none
  abs : mg "abs" = none
  all : mg "all" = none
  bool : mg "bool" = none
  enumerate : mg "enumerate" = none
  int : mg "int" = none
  isinstance : mg "isinstance" = none
  len : mg "len" = none
  list : mg "list" = none
  str : mg "str" = none
  tuple : mg "tuple" = none
  t_is_whole : TopFn K mg "is_whole" s_is_whole
  t_common_divisor : TopFn K mg "common_divisor" s_common_divisor
  t_is_ratio : TopFn K mg "is_ratio" s_is_ratio
  t_ratio_of : TopFn K mg "ratio_of" s_ratio_of
  t_sum_of : TopFn K mg "sum_of" s_sum_of
  t_less_by : TopFn K mg "less_by" s_less_by
  t_product_of : TopFn K mg "product_of" s_product_of
  t_quotient_of : TopFn K mg "quotient_of" s_quotient_of
  t_is_less : TopFn K mg "is_less" s_is_less
  t_is_stretch : TopFn K mg "is_stretch" s_is_stretch
  t_is_box : TopFn K mg "is_box" s_is_box
  t_look_at_box : TopFn K mg "look_at_box" s_look_at_box
  t_is_piece : TopFn K mg "is_piece" s_is_piece
  t_piece_of : TopFn K mg "piece_of" s_piece_of
  t_look_at : TopFn K mg "look_at" s_look_at
  t_limits_of : TopFn K mg "limits_of" s_limits_of
  t_is_before : TopFn K mg "is_before" s_is_before
  t_corners_of : TopFn K mg "corners_of" s_corners_of
  t_edges_of : TopFn K mg "edges_of" s_edges_of
  t_room_at : TopFn K mg "room_at" s_room_at
  t_crossing_of : TopFn K mg "crossing_of" s_crossing_of
  t_cut_by : TopFn K mg "cut_by" s_cut_by
  t_from_the_least : TopFn K mg "from_the_least" s_from_the_least
  t_field_of : TopFn K mg "field_of" s_field_of
  t__law_cell_at : TopFn K mg "_law_cell_at" s__law_cell_at
  t__law_mix : TopFn K mg "_law_mix" s__law_mix
  t__law_ratio : TopFn K mg "_law_ratio" s__law_ratio
  t__law_stop : TopFn K mg "_law_stop" s__law_stop
  t__law_bench : TopFn K mg "_law_bench" s__law_bench
  t__law_box : TopFn K mg "_law_box" s__law_box
  t__law_wrong : TopFn K mg "_law_wrong" s__law_wrong
  t__law_no_bench : TopFn K mg "_law_no_bench" s__law_no_bench
  t__law_refused : TopFn K mg "_law_refused" s__law_refused
theorem exc_mk {K : PySem.W.Frag} {h : Heap} {mg : Str → Option Value} {CBenchError CNoNumber CNoText CNoTable CNoBox CNoStock CNoWish CNoRow CUnknown CNoBench CPiece CGap CGlass CStop CNOUGHT CONE : Addr} {cdNoBox : ClassData} {cdNoBench : ClassData} {tGAP : Tok} {tGLASS : Tok} {tSTOP : Tok} {tMOST_PIECES : Tok} {f_Gap_init : Addr} {oc_Gap_init : Value} {od_Gap_init an_Gap_init : Option Addr} {sl_Gap_init : Array (Option Value)} {kV_Gap_init dc_Gap_init pm_Gap_init cd_Gap_init ct_Gap_init : Value} {f_Gap_bent : Addr} {oc_Gap_bent : Value} {od_Gap_bent an_Gap_bent : Option Addr} {sl_Gap_bent : Array (Option Value)} {kV_Gap_bent dc_Gap_bent pm_Gap_bent cd_Gap_bent ct_Gap_bent : Value} {f_Glass_init : Addr} {oc_Glass_init : Value} {od_Glass_init an_Glass_init : Option Addr} {sl_Glass_init : Array (Option Value)} {kV_Glass_init dc_Glass_init pm_Glass_init cd_Glass_init ct_Glass_init : Value} {f_Glass_bent : Addr} {oc_Glass_bent : Value} {od_Glass_bent an_Glass_bent : Option Addr} {sl_Glass_bent : Array (Option Value)} {kV_Glass_bent dc_Glass_bent pm_Glass_bent cd_Glass_bent ct_Glass_bent : Value} {f_Stop_init : Addr} {oc_Stop_init : Value} {od_Stop_init an_Stop_init : Option Addr} {sl_Stop_init : Array (Option Value)} {kV_Stop_init dc_Stop_init pm_Stop_init cd_Stop_init ct_Stop_init : Value} {f_Stop_bent : Addr} {oc_Stop_bent : Value} {od_Stop_bent an_Stop_bent : Option Addr} {sl_Stop_bent : Array (Option Value)} {kV_Stop_bent dc_Stop_bent pm_Stop_bent cd_Stop_bent ct_Stop_bent : Value} {f_NoBench_init : Addr} {oc_NoBench_init : Value} {od_NoBench_init an_NoBench_init : Option Addr} {sl_NoBench_init : Array (Option Value)} {kV_NoBench_init dc_NoBench_init pm_NoBench_init cd_NoBench_init ct_NoBench_init : Value} {nm_NoBench_init qn_NoBench_init : Str} {N_NoBench_init : Addr} {bs_NoBench_init sub_NoBench_init : List Value} {sn_NoBench_init : List Str} {ab_NoBench_init : Bool} {col_NoBench_init : Option Bool} {dd_NoBench_init : Option Addr} {k0_NoBench_init k1_NoBench_init k2_NoBench_init k3_NoBench_init k5_NoBench_init : Option Value} {tk_NOUGHT_0 : Tok} {tk_NOUGHT_1 : Tok} {dd_NOUGHT : Option Addr} {nn_NOUGHT : Nat} {sl_NOUGHT : Array (Option Value)} {tk_ONE_0 : Tok} {tk_ONE_1 : Tok} {dd_ONE : Option Addr} {nn_ONE : Nat} {sl_ONE : Array (Option Value)} (X : K.In h) (G : h.Ns mainGlobals mg) (m_BenchError : PySem.W.nsIn K mainGlobals "BenchError" = some (some (.ref CBenchError))) (m_NoNumber : PySem.W.nsIn K mainGlobals "NoNumber" = some (some (.ref CNoNumber))) (m_NoText : PySem.W.nsIn K mainGlobals "NoText" = some (some (.ref CNoText))) (m_NoTable : PySem.W.nsIn K mainGlobals "NoTable" = some (some (.ref CNoTable))) (m_NoBox : PySem.W.nsIn K mainGlobals "NoBox" = some (some (.ref CNoBox))) (m_NoStock : PySem.W.nsIn K mainGlobals "NoStock" = some (some (.ref CNoStock))) (m_NoWish : PySem.W.nsIn K mainGlobals "NoWish" = some (some (.ref CNoWish))) (m_NoRow : PySem.W.nsIn K mainGlobals "NoRow" = some (some (.ref CNoRow))) (m_Unknown : PySem.W.nsIn K mainGlobals "Unknown" = some (some (.ref CUnknown))) (m_NoBench : PySem.W.nsIn K mainGlobals "NoBench" = some (some (.ref CNoBench))) (m_Piece : PySem.W.nsIn K mainGlobals "Piece" = some (some (.ref CPiece))) (m_Gap : PySem.W.nsIn K mainGlobals "Gap" = some (some (.ref CGap))) (m_Glass : PySem.W.nsIn K mainGlobals "Glass" = some (some (.ref CGlass))) (m_Stop : PySem.W.nsIn K mainGlobals "Stop" = some (some (.ref CStop))) (m_GAP : PySem.W.nsIn K mainGlobals "GAP" = some (some (.str "gap" tGAP))) (m_GLASS : PySem.W.nsIn K mainGlobals "GLASS" = some (some (.str "glass" tGLASS))) (m_STOP : PySem.W.nsIn K mainGlobals "STOP" = some (some (.str "stop" tSTOP))) (m_MOST_PIECES : PySem.W.nsIn K mainGlobals "MOST_PIECES" = some (some (.int 60 tMOST_PIECES))) (o_NoBox : PySem.W.excIn K CNoBox [.type "ValueError", .type "Exception", .type "BaseException", .type "object"] "ValueError.__new__" = true) (x_NoBox_BenchError : PySem.W.exmOne K (.ref CNoBox) (.ref CBenchError) = some true) (x_NoBench_BenchError : PySem.W.exmOne K (.ref CNoBench) (.ref CBenchError) = some true) (k_NoBox_NoBench : PySem.W.kitOne K (.ref CNoBox) (.ref CNoBench) = some false) (k_NoBox_NoBox : PySem.W.kitOne K (.ref CNoBox) (.ref CNoBox) = some true) (k_NoBox_ValueError : PySem.W.kitOne K (.ref CNoBox) (.type "ValueError") = some true) (k_NoBox_NoNumber : PySem.W.kitOne K (.ref CNoBox) (.ref CNoNumber) = some false) (k_NoBox_NoRow : PySem.W.kitOne K (.ref CNoBox) (.ref CNoRow) = some false) (k_NoBox_NoStock : PySem.W.kitOne K (.ref CNoBox) (.ref CNoStock) = some false) (k_NoBox_NoTable : PySem.W.kitOne K (.ref CNoBox) (.ref CNoTable) = some false) (k_NoBox_NoText : PySem.W.kitOne K (.ref CNoBox) (.ref CNoText) = some false) (k_NoBox_NoWish : PySem.W.kitOne K (.ref CNoBox) (.ref CNoWish) = some false) (k_NoBox_Unknown : PySem.W.kitOne K (.ref CNoBox) (.ref CUnknown) = some false) (k_NoBench_NoBench : PySem.W.kitOne K (.ref CNoBench) (.ref CNoBench) = some true) (k_NoBench_NoBox : PySem.W.kitOne K (.ref CNoBench) (.ref CNoBox) = some false) (k_NoBench_ValueError : PySem.W.kitOne K (.ref CNoBench) (.type "ValueError") = some true) (k_NoBench_NoNumber : PySem.W.kitOne K (.ref CNoBench) (.ref CNoNumber) = some false) (k_NoBench_NoRow : PySem.W.kitOne K (.ref CNoBench) (.ref CNoRow) = some false) (k_NoBench_NoStock : PySem.W.kitOne K (.ref CNoBench) (.ref CNoStock) = some false) (k_NoBench_NoTable : PySem.W.kitOne K (.ref CNoBench) (.ref CNoTable) = some false) (k_NoBench_NoText : PySem.W.kitOne K (.ref CNoBench) (.ref CNoText) = some false) (k_NoBench_NoWish : PySem.W.kitOne K (.ref CNoBench) (.ref CNoWish) = some false) (k_NoBench_Unknown : PySem.W.kitOne K (.ref CNoBench) (.ref CUnknown) = some false) (ecl_NoBox : PySem.W.clsIn K CNoBox = some cdNoBox) (ega_NoBox : PySem.W.findIn K (.ref CNoBox) "__getattribute__" = some (some (.builtin "BaseException.__getattribute__"))) (egt_NoBox : PySem.W.findIn K (.ref CNoBox) "__getattr__" = some none) (eha_NoBox : PySem.W.findIn K (.ref CNoBox) "__class__" = some (some (.builtin "object.__class__"))) (ehn_NoBox : PySem.W.specialIn K (.builtin "object.__class__") "__get__" = some (some (.builtin "getset_descriptor.__get__"))) (eht_NoBox : PySem.W.takesIn K (.builtin "object.__class__") = some true) (ehm_NoBox : PySem.W.mroIn K CNoBox (.type "object") = some true) (ehb_NoBox : PySem.W.mroIn K CNoBox (.type "BaseException") = some true) (ecl_NoBench : PySem.W.clsIn K CNoBench = some cdNoBench) (ega_NoBench : PySem.W.findIn K (.ref CNoBench) "__getattribute__" = some (some (.builtin "BaseException.__getattribute__"))) (egt_NoBench : PySem.W.findIn K (.ref CNoBench) "__getattr__" = some none) (eha_NoBench : PySem.W.findIn K (.ref CNoBench) "__class__" = some (some (.builtin "object.__class__"))) (ehn_NoBench : PySem.W.specialIn K (.builtin "object.__class__") "__get__" = some (some (.builtin "getset_descriptor.__get__"))) (eht_NoBench : PySem.W.takesIn K (.builtin "object.__class__") = some true) (ehm_NoBench : PySem.W.mroIn K CNoBench (.type "object") = some true) (ehb_NoBench : PySem.W.mroIn K CNoBench (.type "BaseException") = some true) (pg_Gap : PySem.W.plainGet K CGap Str.empty = true) (hd_Gap : PySem.W.hasDictIn K CGap = true) (po_Gap : PySem.W.plainOver K CGap = true) (sa_Gap : PySem.W.findIn K (.ref CGap) "__setattr__" = some (some (.builtin "object.__setattr__"))) (mk_Gap_init : PySem.W.makesIn K CGap = true) (a_Gap_init : PySem.W.findIn K (.ref CGap) "__init__" = some (some (.ref f_Gap_init))) (fn_Gap_init : PySem.W.isFn K (.ref f_Gap_init) = true) (kc_Gap_init : PySem.W.keepIn K (.ref CGap) = true) (l_Gap_init : K.lookup f_Gap_init = some ⟨oc_Gap_init, od_Gap_init, .func (PySem.W.fnOf "__init__" "Gap.__init__" (defArgs s_Gap_init) (defBody s_Gap_init) (defScope s_Gap_init) .none kV_Gap_init dc_Gap_init pm_Gap_init an_Gap_init cd_Gap_init ct_Gap_init), sl_Gap_init⟩) (c_Gap_init : PySem.W.codeIn K cd_Gap_init "Gap.__init__" = true) (kp_Gap_init : PySem.W.keepIn K (.ref f_Gap_init) = true) (a_Gap_bent : PySem.W.findIn K (.ref CGap) "bent" = some (some (.ref f_Gap_bent))) (fn_Gap_bent : PySem.W.isFn K (.ref f_Gap_bent) = true) (kp_Gap_bent : PySem.W.keepIn K (.ref f_Gap_bent) = true) (l_Gap_bent : K.lookup f_Gap_bent = some ⟨oc_Gap_bent, od_Gap_bent, .func (PySem.W.fnOf "bent" "Gap.bent" (defArgs s_Gap_bent) (defBody s_Gap_bent) (defScope s_Gap_bent) .none kV_Gap_bent dc_Gap_bent pm_Gap_bent an_Gap_bent cd_Gap_bent ct_Gap_bent), sl_Gap_bent⟩) (c_Gap_bent : PySem.W.codeIn K cd_Gap_bent "Gap.bent" = true) (n_Gap_length : PySem.W.findIn K (.ref CGap) "length" = some none) (pg_Glass : PySem.W.plainGet K CGlass Str.empty = true) (hd_Glass : PySem.W.hasDictIn K CGlass = true) (po_Glass : PySem.W.plainOver K CGlass = true) (sa_Glass : PySem.W.findIn K (.ref CGlass) "__setattr__" = some (some (.builtin "object.__setattr__"))) (mk_Glass_init : PySem.W.makesIn K CGlass = true) (a_Glass_init : PySem.W.findIn K (.ref CGlass) "__init__" = some (some (.ref f_Glass_init))) (fn_Glass_init : PySem.W.isFn K (.ref f_Glass_init) = true) (kc_Glass_init : PySem.W.keepIn K (.ref CGlass) = true) (l_Glass_init : K.lookup f_Glass_init = some ⟨oc_Glass_init, od_Glass_init, .func (PySem.W.fnOf "__init__" "Glass.__init__" (defArgs s_Glass_init) (defBody s_Glass_init) (defScope s_Glass_init) .none kV_Glass_init dc_Glass_init pm_Glass_init an_Glass_init cd_Glass_init ct_Glass_init), sl_Glass_init⟩) (c_Glass_init : PySem.W.codeIn K cd_Glass_init "Glass.__init__" = true) (kp_Glass_init : PySem.W.keepIn K (.ref f_Glass_init) = true) (a_Glass_bent : PySem.W.findIn K (.ref CGlass) "bent" = some (some (.ref f_Glass_bent))) (fn_Glass_bent : PySem.W.isFn K (.ref f_Glass_bent) = true) (kp_Glass_bent : PySem.W.keepIn K (.ref f_Glass_bent) = true) (l_Glass_bent : K.lookup f_Glass_bent = some ⟨oc_Glass_bent, od_Glass_bent, .func (PySem.W.fnOf "bent" "Glass.bent" (defArgs s_Glass_bent) (defBody s_Glass_bent) (defScope s_Glass_bent) .none kV_Glass_bent dc_Glass_bent pm_Glass_bent an_Glass_bent cd_Glass_bent ct_Glass_bent), sl_Glass_bent⟩) (c_Glass_bent : PySem.W.codeIn K cd_Glass_bent "Glass.bent" = true) (n_Glass_strength : PySem.W.findIn K (.ref CGlass) "strength" = some none) (pg_Stop : PySem.W.plainGet K CStop Str.empty = true) (hd_Stop : PySem.W.hasDictIn K CStop = true) (po_Stop : PySem.W.plainOver K CStop = true) (sa_Stop : PySem.W.findIn K (.ref CStop) "__setattr__" = some (some (.builtin "object.__setattr__"))) (mk_Stop_init : PySem.W.makesIn K CStop = true) (a_Stop_init : PySem.W.findIn K (.ref CStop) "__init__" = some (some (.ref f_Stop_init))) (fn_Stop_init : PySem.W.isFn K (.ref f_Stop_init) = true) (kc_Stop_init : PySem.W.keepIn K (.ref CStop) = true) (l_Stop_init : K.lookup f_Stop_init = some ⟨oc_Stop_init, od_Stop_init, .func (PySem.W.fnOf "__init__" "Stop.__init__" (defArgs s_Stop_init) (defBody s_Stop_init) (defScope s_Stop_init) .none kV_Stop_init dc_Stop_init pm_Stop_init an_Stop_init cd_Stop_init ct_Stop_init), sl_Stop_init⟩) (c_Stop_init : PySem.W.codeIn K cd_Stop_init "Stop.__init__" = true) (kp_Stop_init : PySem.W.keepIn K (.ref f_Stop_init) = true) (a_Stop_bent : PySem.W.findIn K (.ref CStop) "bent" = some (some (.ref f_Stop_bent))) (fn_Stop_bent : PySem.W.isFn K (.ref f_Stop_bent) = true) (kp_Stop_bent : PySem.W.keepIn K (.ref f_Stop_bent) = true) (l_Stop_bent : K.lookup f_Stop_bent = some ⟨oc_Stop_bent, od_Stop_bent, .func (PySem.W.fnOf "bent" "Piece.bent" (defArgs s_Piece_bent) (defBody s_Piece_bent) (defScope s_Piece_bent) .none kV_Stop_bent dc_Stop_bent pm_Stop_bent an_Stop_bent cd_Stop_bent ct_Stop_bent), sl_Stop_bent⟩) (c_Stop_bent : PySem.W.codeIn K cd_Stop_bent "Piece.bent" = true) (n_Stop_low : PySem.W.findIn K (.ref CStop) "low" = some none) (n_Stop_high : PySem.W.findIn K (.ref CStop) "high" = some none) (ob_NoBench_init : K.lookup CNoBench = some (excClassObj nm_NoBench_init qn_NoBench_init CNoBench N_NoBench_init bs_NoBench_init (.ref CBenchError :: bmVE) true sn_NoBench_init sub_NoBench_init ab_NoBench_init col_NoBench_init dd_NoBench_init k0_NoBench_init k1_NoBench_init k2_NoBench_init k3_NoBench_init k5_NoBench_init "ValueError.__new__")) (o_cb_NoBench_init : PySem.W.excIn K CBenchError bmVE "ValueError.__new__" = true) (it_NoBench_init : PySem.W.findIn K (.ref CNoBench) "__init__" = some (some (.ref f_NoBench_init))) (kp0_NoBench_init : PySem.W.keepIn K (.ref CNoBench) = true) (hm_NoBench_init : PySem.W.mroIn K CNoBench (.type "object") = some true) (hd_NoBench_init : PySem.W.hasDictIn K CNoBench = true) (fn_NoBench_init : PySem.W.typeIn K (.ref f_NoBench_init) = some (.type "function")) (sa_NoBench_init : PySem.W.findIn K (.ref CNoBench) "__setattr__" = some (some (.builtin "object.__setattr__"))) (na_NoBench_init : PySem.W.findIn K (.ref CNoBench) "at" = some none) (rd_NoBench_init : PySem.W.readsIn K CBenchError (.type "type") = true) (fc_NoBench_init : PySem.W.findCls K (.ref CBenchError) (.type "type") "__init__" = some (.val (.builtin "ValueError.__init__"))) (sg_NoBench_init : PySem.W.specialIn K (.ref CBenchError) "__getattribute__" = some (some (.builtin "type.__getattribute__"))) (l_NoBench_init : K.lookup f_NoBench_init = some ⟨oc_NoBench_init, od_NoBench_init, .func (PySem.W.fnOf "__init__" "NoBench.__init__" (defArgs s_NoBench_init) (defBody s_NoBench_init) (defScope s_NoBench_init) .none kV_NoBench_init dc_NoBench_init pm_NoBench_init an_NoBench_init cd_NoBench_init ct_NoBench_init), sl_NoBench_init⟩) (c_NoBench_init : PySem.W.codeIn K cd_NoBench_init "NoBench.__init__" = true) (kp_NoBench_init : PySem.W.keepIn K (.ref f_NoBench_init) = true) (m_NOUGHT : PySem.W.nsIn K mainGlobals "NOUGHT" = some (some (.ref CNOUGHT))) (lk_NOUGHT : K.lookup CNOUGHT = some ⟨.type "tuple", dd_NOUGHT, .seq #[.int 0 tk_NOUGHT_0, .int 1 tk_NOUGHT_1] nn_NOUGHT, sl_NOUGHT⟩) (m_ONE : PySem.W.nsIn K mainGlobals "ONE" = some (some (.ref CONE))) (lk_ONE : K.lookup CONE = some ⟨.type "tuple", dd_ONE, .seq #[.int 1 tk_ONE_0, .int 1 tk_ONE_1] nn_ONE, sl_ONE⟩) : Exc K mg ⟨0, CBenchError, CNoNumber, CNoText, CNoTable, CNoBox, CNoStock, CNoWish, CNoRow, CUnknown, CNoBench, CPiece, CGap, CGlass, CStop, CNOUGHT, CONE, tGAP, tGLASS, tSTOP, tMOST_PIECES⟩ := ⟨trivial, PySem.W.mg_of X G m_BenchError, PySem.W.mg_of X G m_NoNumber, PySem.W.mg_of X G m_NoText, PySem.W.mg_of X G m_NoTable, PySem.W.mg_of X G m_NoBox, PySem.W.mg_of X G m_NoStock, PySem.W.mg_of X G m_NoWish, PySem.W.mg_of X G m_NoRow, PySem.W.mg_of X G m_Unknown, PySem.W.mg_of X G m_NoBench, PySem.W.mg_of X G m_Piece, PySem.W.mg_of X G m_Gap, PySem.W.mg_of X G m_Glass, PySem.W.mg_of X G m_Stop, PySem.W.mg_of X G m_GAP, PySem.W.mg_of X G m_GLASS, PySem.W.mg_of X G m_STOP, PySem.W.mg_of X G m_MOST_PIECES, ⟨PySem.W.mg_of X G m_NoBox, o_NoBox⟩, x_NoBox_BenchError, x_NoBench_BenchError, k_NoBox_NoBench, k_NoBox_NoBox, k_NoBox_ValueError, k_NoBox_NoNumber, k_NoBox_NoRow, k_NoBox_NoStock, k_NoBox_NoTable, k_NoBox_NoText, k_NoBox_NoWish, k_NoBox_Unknown, k_NoBench_NoBench, k_NoBench_NoBox, k_NoBench_ValueError, k_NoBench_NoNumber, k_NoBench_NoRow, k_NoBench_NoStock, k_NoBench_NoTable, k_NoBench_NoText, k_NoBench_NoWish, k_NoBench_Unknown, ⟨by rw [ecl_NoBox]; rfl, ega_NoBox, egt_NoBox, eha_NoBox, ehn_NoBox, eht_NoBox, ehm_NoBox, ehb_NoBox⟩, ⟨by rw [ecl_NoBench]; rfl, ega_NoBench, egt_NoBench, eha_NoBench, ehn_NoBench, eht_NoBench, ehm_NoBench, ehb_NoBench⟩, ⟨pg_Gap, hd_Gap, po_Gap, sa_Gap⟩, ⟨⟨_, _, fun_mk l_Gap_init c_Gap_init kp_Gap_init, ⟨mk_Gap_init, a_Gap_init, fn_Gap_init, kc_Gap_init⟩⟩, PySem.W.mg_of X G m_Gap⟩, ⟨⟨_, _, fun_mk l_Gap_bent c_Gap_bent kp_Gap_bent, ⟨a_Gap_bent, fn_Gap_bent, kp_Gap_bent⟩⟩, ⟨pg_Gap, hd_Gap, po_Gap, sa_Gap⟩⟩, n_Gap_length, ⟨pg_Glass, hd_Glass, po_Glass, sa_Glass⟩, ⟨⟨_, _, fun_mk l_Glass_init c_Glass_init kp_Glass_init, ⟨mk_Glass_init, a_Glass_init, fn_Glass_init, kc_Glass_init⟩⟩, PySem.W.mg_of X G m_Glass⟩, ⟨⟨_, _, fun_mk l_Glass_bent c_Glass_bent kp_Glass_bent, ⟨a_Glass_bent, fn_Glass_bent, kp_Glass_bent⟩⟩, ⟨pg_Glass, hd_Glass, po_Glass, sa_Glass⟩⟩, n_Glass_strength, ⟨pg_Stop, hd_Stop, po_Stop, sa_Stop⟩, ⟨⟨_, _, fun_mk l_Stop_init c_Stop_init kp_Stop_init, ⟨mk_Stop_init, a_Stop_init, fn_Stop_init, kc_Stop_init⟩⟩, PySem.W.mg_of X G m_Stop⟩, ⟨⟨_, _, fun_mk l_Stop_bent c_Stop_bent kp_Stop_bent, ⟨a_Stop_bent, fn_Stop_bent, kp_Stop_bent⟩⟩, ⟨pg_Stop, hd_Stop, po_Stop, sa_Stop⟩⟩, n_Stop_low, n_Stop_high, ⟨⟨_, _, fun_mk l_NoBench_init c_NoBench_init kp_NoBench_init, ⟨⟨_, _, _, _, _, _, _, _, _, _, _, _, _, _, ob_NoBench_init⟩, o_cb_NoBench_init, it_NoBench_init, kp0_NoBench_init, hm_NoBench_init, hd_NoBench_init, fn_NoBench_init, sa_NoBench_init, na_NoBench_init, rd_NoBench_init, fc_NoBench_init, sg_NoBench_init⟩⟩, PySem.W.mg_of X G m_NoBench⟩, PySem.W.mg_of X G m_NOUGHT, fun H => .inr ⟨_, _, _, lk_NOUGHT, rfl, rfl, by show 2 ≤ sizeLine; decide, (.cons ⟨_, rfl⟩ (.cons ⟨_, rfl⟩ .nil))⟩, PySem.W.mg_of X G m_ONE, fun H => .inr ⟨_, _, _, lk_ONE, rfl, rfl, by show 2 ≤ sizeLine; decide, (.cons ⟨_, rfl⟩ (.cons ⟨_, rfl⟩ .nil))⟩⟩
section
variable {P : Program} {w : World} {K : PySem.W.Frag} {mg : Str → Option Value} {base : Heap} {ad : Adr} {c : Bool}
theorem c_is_whole (T : Txt K mg ad) : CalB P w K mg base true 1 "is_whole" ["thing"] (spW K) := by
  refine T.t_is_whole.calN sc_is_whole (fun _ _ _ _ _ _ => by1 fun _ => rfl) (fun vs H Q E h => ?_) (fun f cdv A outer s H vs Q E hr h => ?_)
  · obtain ⟨v, d, rfl, _⟩ := h; rfl
  obtain ⟨v, d, rfl, hv, q⟩ := h
  obtain ⟨b, b', hb, hc, e⟩ := isInt_b d
  refine ⟨_, (pss_one (ps_ret (pe_and (pe_callB call_isiD rfl T.isinstance bt_isinstance (pa_name (pv 0) (pa_name (pe_bltn (v := .ty "int") rfl T.int bt_int rfl) pa_nil))) (pe_one (pe_not (pe_callB call_isiD rfl T.isinstance bt_isinstance (pa_name (pv 0) (pa_name (pe_bltn (v := .ty "bool") rfl T.bool bt_bool rfl) pa_nil)))))))), ?_⟩
  refine ⟨_, rfl, _, _, _, b, rfl, hv, hb, _, rfl, ?_⟩
  cases b with
  | false =>
    have e' : isIntD d = false := e.symm
    rw [e'] at q
    exact iteF q
  | true =>
    refine iteT ?_
    refine ⟨_, rfl, _, _, _, b', rfl, hv, hc, _, rfl, ?_⟩
    have e' : (!b') = isIntD d := e
    show Q (.bl (!b')) H
    rw [e']
    exact q
theorem c_common_divisor (T : Txt K mg ad) : CalB P w K mg base true 1 "common_divisor" ["one", "other"] spDiv := by
  refine T.t_common_divisor.calN sc_common_divisor (fun _ _ _ _ _ _ => by2 fun _ _ => rfl) (fun vs H Q E h => ?_) (fun f cdv A outer s H vs Q E hr h => ?_)
  · obtain ⟨a, b, rfl, _⟩ := h; rfl
  obtain ⟨a, b, rfl, q⟩ := h
  refine ⟨_, (pss_cons (ps_set (i := 2) sc_common_divisor.nd rfl (Or.inl rfl) (pe_callB call_abs rfl T.abs bt_abs (pa_name (pv 0) pa_nil))) (pss_cons (ps_set (i := 3) sc_common_divisor.nd rfl (Or.inl rfl) (pe_callB call_abs rfl T.abs bt_abs (pa_name (pv 1) pa_nil))) (pss_cons (ps_while PassesOwn.never (pt_cmpR op_ne (pv 3) pe_int (nomark _)) (pss_cons (ps_set (i := 4) sc_common_divisor.nd rfl (Or.inl rfl) (pe_op op_mod (pv 2) (pv 3))) (pss_cons (ps_set (i := 2) sc_common_divisor.nd rfl (Or.inl rfl) (pv 3)) (pss_one (ps_set (i := 3) sc_common_divisor.nd rfl (Or.inl rfl) (pv 4)))))) (pss_one (ps_ret (pv 2)))))), ?_⟩
  refine ⟨_, rfl, _, rfl, _, rfl, _, rfl, ?_⟩
  have ea := Fr.absE a
  have eb := Fr.absE b
  refine ⟨fun k σ H' => H = H' ∧ ∃ (m : Nat) (r : Option V), σ = [some (.int a), some (.int b), some (.int m), some (.int k), r] ∧ Nat.gcd m k = Nat.gcd a.natAbs b.natAbs, ⟨b.natAbs, rfl, a.natAbs, none, by rw [← ea, ← eb]; rfl, rfl⟩, ?_⟩
  rintro n _ _ ⟨rfl, m, r, rfl, e⟩
  refine ⟨_, rfl, rfl, _, rfl, ?_⟩
  refine ite2 (fun c => ?_) (fun c => ?_)
  · have hn : n ≠ 0 := by
      intro z
      subst z
      simp at c
    have h1 : (m : Int) % (n : Int) = ((m % n : Nat) : Int) := (Int.natCast_emod m n).symm
    refine ⟨fun σ' H' => H = H' ∧ σ' = [some (.int a), some (.int b), some (.int n), some (.int ((m : Int) % (n : Int))), some (.int ((m : Int) % (n : Int)))], ?_, ?_⟩
    · rintro _ _ ⟨rfl, rfl⟩
      rw [h1]
      exact ⟨m % n, Nat.mod_lt _ (by omega), rfl, n, _, rfl, by rw [Fr.gcd_turn, e]⟩
    · exact ⟨_, rfl, _, rfl, _, _, rfl, rfl, (by show (0 : Int) < (n : Int); omega), _, rfl, _, rfl, rfl, rfl⟩
  · have hn : n = 0 := by
      by_cases z : n = 0
      · exact z
      · exfalso
        apply c
        rw [decI]
        simp
        omega
    subst hn
    refine ⟨_, rfl, ?_⟩
    have e2 : (m : Int) = Fr.gcd a b := by
      unfold Fr.gcd
      rw [← e, Nat.gcd_zero_right]
    rw [e2]
    exact q
theorem c_is_ratio (T : Txt K mg ad) : CalB P w K mg base true 2 "is_ratio" ["thing"] (spRatG K) := by
  have C_is_whole := c_is_whole (P := P) (w := w) (base := base) T
  have C_common_divisor := c_common_divisor (P := P) (w := w) (base := base) T
  refine T.t_is_ratio.calN sc_is_ratio (fun _ _ _ _ _ _ => by1 fun _ => rfl) (fun vs H Q E h => ?_) (fun f cdv A outer s H vs Q E hr h => ?_)
  · obtain ⟨_, _, rfl, _⟩ := h; rfl
  obtain ⟨v, q0, rfl, hv, q⟩ := h
  obtain ⟨a, rfl, ha⟩ := hv.fr
  refine ⟨_, (pss_cons (ps_if (PW.pt (pw_or (pt_not (pt_val (pe_callB call_isiD rfl T.isinstance bt_isinstance (pa_name (pv 0) (pa_name (pe_bltn (v := .ty "tuple") rfl T.tuple bt_tuple rfl) pa_nil))))) (pw_or1 (pt_cmpR op_ne (pe_callB call_len_seq rfl T.len bt_len (pa_name (pv 0) pa_nil)) pe_int (nomark _))))) (pss_one (ps_ret pe_bl)) pss_nil) (pss_cons (ps_set (i := 1) sc_is_ratio.nd rfl (Or.inl rfl) (pe_ix ix_tup (pv 0) pe_int (fun _ _ => rfl))) (pss_cons (ps_set (i := 2) sc_is_ratio.nd rfl (Or.inl rfl) (pe_ix ix_tup (pv 0) pe_int (fun _ _ => rfl))) (pss_cons (ps_if (PW.pt (pw_or (pt_not (pt_val (pe_cB C_is_whole (hr.mono (by decide)) pass01 (pa_name (pv 1) pa_nil)))) (pw_or1 (pt_not (pt_val (pe_cB C_is_whole (hr.mono (by decide)) pass01 (pa_name (pv 2) pa_nil))))))) (pss_one (ps_ret pe_bl)) pss_nil) (pss_one (ps_ret (pe_and (pe_cmpR op_ge (pv 2) pe_int (nomark _)) (pe_one (pe_cmpR op_eq (pe_cB C_common_divisor (hr.mono (by decide)) pass01 (pa_name (pv 1) (pa_name (pv 2) pa_nil))) pe_int (nomark _)))))))))), ?_⟩
  refine ⟨_, rfl, _, _, _, _, rfl, hv, isTup_b _, _, rfl, iteF ?_⟩
  refine ⟨_, rfl, a, _, rfl, .inr ha, rfl, _, rfl, iteF ?_⟩
  refine ⟨_, rfl, a, _, _, _, rfl, rfl, ha, rfl, ?_⟩
  refine ⟨_, rfl, a, _, _, _, rfl, rfl, ha, rfl, ?_⟩
  refine ⟨_, rfl, _, _, rfl, .int _, _, rfl, iteF ?_⟩
  refine ⟨_, rfl, _, _, rfl, .int _, _, rfl, iteF ?_⟩
  refine ⟨_, rfl, _, _, rfl, rfl, _, rfl, iteT' (decide_eq_true (denp q0)) ⟨_, rfl, _, rfl, _, _, rfl, rfl, ?_⟩⟩
  show Q (.bl (decide (V.int (Fr.gcd q0.num (q0.den : Int)) = V.int 1))) H
  rw [decI, decide_eq_true (frO_gcd q0)]
  exact q
theorem c_is_ratio_any (T : Txt K mg ad) : CalB P w K mg base true 2 "is_ratio" ["thing"] (spRat K) := by
  have C_is_whole := c_is_whole (P := P) (w := w) (base := base) T
  have C_common_divisor := c_common_divisor (P := P) (w := w) (base := base) T
  refine T.t_is_ratio.calN sc_is_ratio (fun _ _ _ _ _ _ => by1 fun _ => rfl) (fun vs H Q E h => ?_) (fun f cdv A outer s H vs Q E hr h => ?_)
  · obtain ⟨_, _, rfl, _⟩ := h; rfl
  obtain ⟨v, d, rfl, hv, q⟩ := h
  refine ⟨_, (pss_cons (ps_if (PW.pt (pw_or (pt_not (pt_val (pe_callB call_isiD rfl T.isinstance bt_isinstance (pa_name (pv 0) (pa_name (pe_bltn (v := .ty "tuple") rfl T.tuple bt_tuple rfl) pa_nil))))) (pw_or1 (pt_cmpR op_ne (pe_callB call_len_seq rfl T.len bt_len (pa_name (pv 0) pa_nil)) pe_int (nomark _))))) (pss_one (ps_ret pe_bl)) pss_nil) (pss_cons (ps_set (i := 1) sc_is_ratio.nd rfl (Or.inl rfl) (pe_ix ix_tup (pv 0) pe_int (fun _ _ => rfl))) (pss_cons (ps_set (i := 2) sc_is_ratio.nd rfl (Or.inl rfl) (pe_ix ix_tup (pv 0) pe_int (fun _ _ => rfl))) (pss_cons (ps_if (PW.pt (pw_or (pt_not (pt_val (pe_cB C_is_whole (hr.mono (by decide)) pass01 (pa_name (pv 1) pa_nil)))) (pw_or1 (pt_not (pt_val (pe_cB C_is_whole (hr.mono (by decide)) pass01 (pa_name (pv 2) pa_nil))))))) (pss_one (ps_ret pe_bl)) pss_nil) (pss_one (ps_ret (pe_and (pe_cmpR op_ge (pv 2) pe_int (nomark _)) (pe_one (pe_cmpR op_eq (pe_cB C_common_divisor (hr.mono (by decide)) pass01 (pa_name (pv 1) (pa_name (pv 2) pa_nil))) pe_int (nomark _)))))))))), ?_⟩
  refine ⟨_, rfl, _, _, _, _, rfl, hv, isTup_b d, _, rfl, ?_⟩
  cases ht : isTupD d with
  | false =>
    refine iteT (iteT ?_)
    rw [ratD_no ht] at q
    exact q
  | true =>
    obtain ⟨ds, rfl⟩ := isTup_of ht
    obtain ⟨a, xs, rfl, ha, hds⟩ := hv.tup_of
    refine iteF ?_
    refine ⟨_, rfl, a, _, rfl, .inr ha, rfl, _, rfl, ?_⟩
    by_cases hl : ds.length = 2
    · obtain ⟨d1, d2, rfl⟩ : ∃ d1 d2, ds = [d1, d2] := by
        match ds, hl with
        | [d1, d2], _ => exact ⟨d1, d2, rfl⟩
      obtain ⟨x, y, rfl, hx, hy⟩ := hds.two
      refine iteF ?_
      refine ⟨_, rfl, a, _, _, _, rfl, rfl, ha, rfl, ?_⟩
      refine ⟨_, rfl, a, _, _, _, rfl, rfl, ha, rfl, ?_⟩
      refine ⟨_, rfl, _, _, rfl, hx, _, rfl, ?_⟩
      cases h1 : isIntD d1 with
      | false =>
        refine iteT (iteT ?_)
        rw [ratD_two (.inl h1)] at q
        exact q
      | true =>
        refine iteF ?_
        refine ⟨_, rfl, _, _, rfl, hy, _, rfl, ?_⟩
        cases h2 : isIntD d2 with
        | false =>
          refine iteT ?_
          rw [ratD_two (.inr h2)] at q
          exact q
        | true =>
          obtain ⟨i, rfl⟩ := isInt_of h1
          obtain ⟨j, rfl⟩ := isInt_of h2
          obtain rfl := hx.int_of
          obtain rfl := hy.int_of
          refine iteF ?_
          refine ⟨_, rfl, _, _, rfl, rfl, _, rfl, ?_⟩
          have q' : Q (.bl (decide (1 ≤ j) && decide (Fr.gcd i j = 1))) H := q
          refine ite2 (fun c => ?_) (fun c => ?_)
          · have c' : decide (1 ≤ j) = true := c
            rw [c', Bool.true_and] at q'
            refine ⟨_, rfl, _, rfl, i, j, rfl, rfl, ?_⟩
            show Q (.bl (decide (V.int (Fr.gcd i j) = V.int 1))) H
            rw [decI]
            exact q'
          · have c' : decide (1 ≤ j) = false := Bool.eq_false_iff.mpr c
            rw [c', Bool.false_and] at q'
            exact q'
    · have e : decide (V.int ((xs.length : Nat) : Int) = V.int 2) = false := by
        rw [decI]
        exact decide_eq_false (by have := hds.len; omega)
      show if (!decide (V.int ((xs.length : Nat) : Int) = V.int 2)) = true then _ else _
      rw [e]
      refine iteT ?_
      rw [ratD_len hl] at q
      exact q
theorem c_ratio_of (T : Txt K mg ad) : CalB P w K mg base true 2 "ratio_of" ["top", "bottom"] spOfG := by
  have C_is_whole := c_is_whole (P := P) (w := w) (base := base) T
  have C_common_divisor := c_common_divisor (P := P) (w := w) (base := base) T
  refine T.t_ratio_of.calN sc_ratio_of (fun _ _ _ _ _ _ => by2 fun _ _ => rfl) (fun vs H Q E h => ?_) (fun f cdv A outer s H vs Q E hr h => ?_)
  · obtain ⟨x, y, rfl, _⟩ := h; rfl
  obtain ⟨a, b, rfl, b0, bs, q⟩ := h
  refine ⟨_, (pss_cons (ps_if (PW.pt (pw_or (pt_not (pt_val (pe_cB C_is_whole (hr.mono (by decide)) pass01 (pa_name (pv 0) pa_nil)))) (pw_or (pt_not (pt_val (pe_cB C_is_whole (hr.mono (by decide)) pass01 (pa_name (pv 1) pa_nil)))) (pw_or1 (pt_cmpR op_eq (pv 1) pe_int (nomark _)))))) (pss_one ps_never) pss_nil) (pss_cons (ps_set (i := 2) sc_ratio_of.nd rfl (Or.inl rfl) (pe_cB C_common_divisor (hr.mono (by decide)) pass01 (pa_name (pv 0) (pa_name (pv 1) pa_nil)))) (pss_cons (ps_if (pt_cmpR op_lt (pv 1) pe_int (nomark _)) (pss_one (ps_set (i := 2) sc_ratio_of.nd rfl (Or.inl rfl) (pe_op op_sub pe_int (pv 2)))) pss_nil) (pss_one (ps_ret (pe_tup (pa_bin (pe_op op_fdivW (pv 0) (pv 2)) (pa_bin (pe_op op_fdivW (pv 1) (pv 2)) pa_nil)))))))), ?_⟩
  refine ⟨_, rfl, _, _, rfl, .int a, _, rfl, ?_⟩
  refine iteF ?_
  refine ⟨_, rfl, _, _, rfl, .int b, _, rfl, ?_⟩
  refine iteF ?_
  refine ⟨_, rfl, rfl, _, rfl, ?_⟩
  refine ite2 (fun z => ?_) (fun _ => ?_)
  · exfalso
    rw [decI] at z
    exact b0 (of_decide_eq_true z)
  refine ⟨_, rfl, _, rfl, a, b, rfl, ?_⟩
  have gl := Fr.gcd_le (a := a) b0
  have gn := Fr.gcd_nn a b
  have gs : ∀ g : Int, g.natAbs = (Fr.gcd a b).natAbs → g.natAbs.log2 < 9000 := fun g hg => by
    have h2 : g.natAbs < lim := by omega
    exact lim_log h2
  have hlow : ∀ g : Int, g = Fr.sg a b → CDivW a g ∧ CDivW b g := fun g hg => by
    subst hg
    exact ⟨⟨Fr.sg_ne b0, gs _ Fr.sg_abs⟩, ⟨Fr.sg_ne b0, gs _ Fr.sg_abs⟩⟩
  refine ⟨_, rfl, _, _, rfl, rfl, _, rfl, ?_⟩
  refine ite2 (fun c2 => ?_) (fun c2 => ?_)
  · have c3 : b < 0 := of_decide_eq_true c2
    have eg : (0 : Int) - Fr.gcd a b = Fr.sg a b := by
      unfold Fr.sg
      rw [if_pos c3]
    refine ⟨_, rfl, _, _, rfl, rfl, ?_⟩
    refine ⟨_, rfl, _, rfl, _, _, rfl, rfl, (hlow _ eg).1, _, rfl, _, rfl, _, _, rfl, rfl, (hlow _ eg).2, (by show 2 ≤ sizeLine; decide), fun p hp => ?_⟩
    rw [eg]
    exact q p hp
  · have c3 : ¬ b < 0 := fun z => c2 (decide_eq_true z)
    have eg : Fr.gcd a b = Fr.sg a b := by
      unfold Fr.sg
      rw [if_neg c3]
    refine ⟨_, rfl, _, rfl, _, _, rfl, rfl, (hlow _ eg).1, _, rfl, _, rfl, _, _, rfl, rfl, (hlow _ eg).2, (by show 2 ≤ sizeLine; decide), fun p hp => ?_⟩
    rw [eg]
    exact q p hp
theorem c_sum_of (T : Txt K mg ad) : CalB P w K mg base true 3 "sum_of" ["one", "other"] (PR K (RBin fun p q => p + q)) := by
  have C_ratio_of := c_ratio_of (P := P) (w := w) (base := base) T
  refine T.t_sum_of.calN sc_sum_of (fun _ _ _ _ _ _ => by2 fun _ _ => rfl) (fun vs H Q E h => ?_) (fun f cdv A outer s H vs Q E hr h => ?_)
  · obtain ⟨_, _, dv, ⟨_, _, rfl, _⟩, _⟩ := h; exact dv.len
  obtain ⟨_, _, dv, ⟨p, q, rfl, sp, sq, rfl⟩, k⟩ := h
  obtain ⟨_, _, rfl, hx, hy⟩ := dv.two
  obtain ⟨a, rfl, ha⟩ := hx.fr
  obtain ⟨b, rfl, hb⟩ := hy.fr
  refine ⟨_, (pss_one (ps_ret (pe_cB C_ratio_of (hr.mono (by decide)) pass01 (pa_bin (pe_op op_add (pe_op op_mulW (pe_ix ix_tup (pv 0) pe_int (fun _ _ => rfl)) (pe_ix ix_tup (pv 1) pe_int (fun _ _ => rfl))) (pe_op op_mulW (pe_ix ix_tup (pv 1) pe_int (fun _ _ => rfl)) (pe_ix ix_tup (pv 0) pe_int (fun _ _ => rfl)))) (pa_bin (pe_op op_mulW (pe_ix ix_tup (pv 0) pe_int (fun _ _ => rfl)) (pe_ix ix_tup (pv 1) pe_int (fun _ _ => rfl))) pa_nil))))), ?_⟩
  refine ⟨_, rfl, a, _, _, _, rfl, rfl, ha, rfl, _, rfl, b, _, _, _, rfl, rfl, hb, rfl, _, _, rfl, rfl, mulW sp.n sq.dn, ?_⟩
  refine ⟨_, rfl, b, _, _, _, rfl, rfl, hb, rfl, _, rfl, a, _, _, _, rfl, rfl, ha, rfl, _, _, rfl, rfl, mulW sq.n sp.dn, _, _, rfl, rfl, ?_⟩
  refine ⟨_, rfl, a, _, _, _, rfl, rfl, ha, rfl, _, rfl, b, _, _, _, rfl, rfl, hb, rfl, _, _, rfl, rfl, mulW sp.dn sq.dn, ?_⟩
  refine ⟨_, _, rfl, den_mul0 p q, mul_lim sp.dn sq.dn, fun r hr => k _ _ (same_new hr _) ?_⟩
  have e := dv_low (K := K) (H := H) (t := p.num * (q.den : Int) + q.num * (p.den : Int)) (b := (p.den : Int) * (q.den : Int)) (p := r) (den_mul0 p q)
  rw [Fr.sum_rat] at e
  exact e
theorem c_less_by (T : Txt K mg ad) : CalB P w K mg base true 3 "less_by" ["one", "other"] (PR K (RBin fun p q => p - q)) := by
  have C_ratio_of := c_ratio_of (P := P) (w := w) (base := base) T
  refine T.t_less_by.calN sc_less_by (fun _ _ _ _ _ _ => by2 fun _ _ => rfl) (fun vs H Q E h => ?_) (fun f cdv A outer s H vs Q E hr h => ?_)
  · obtain ⟨_, _, dv, ⟨_, _, rfl, _⟩, _⟩ := h; exact dv.len
  obtain ⟨_, _, dv, ⟨p, q, rfl, sp, sq, rfl⟩, k⟩ := h
  obtain ⟨_, _, rfl, hx, hy⟩ := dv.two
  obtain ⟨a, rfl, ha⟩ := hx.fr
  obtain ⟨b, rfl, hb⟩ := hy.fr
  refine ⟨_, (pss_one (ps_ret (pe_cB C_ratio_of (hr.mono (by decide)) pass01 (pa_bin (pe_op op_sub (pe_op op_mulW (pe_ix ix_tup (pv 0) pe_int (fun _ _ => rfl)) (pe_ix ix_tup (pv 1) pe_int (fun _ _ => rfl))) (pe_op op_mulW (pe_ix ix_tup (pv 1) pe_int (fun _ _ => rfl)) (pe_ix ix_tup (pv 0) pe_int (fun _ _ => rfl)))) (pa_bin (pe_op op_mulW (pe_ix ix_tup (pv 0) pe_int (fun _ _ => rfl)) (pe_ix ix_tup (pv 1) pe_int (fun _ _ => rfl))) pa_nil))))), ?_⟩
  refine ⟨_, rfl, a, _, _, _, rfl, rfl, ha, rfl, _, rfl, b, _, _, _, rfl, rfl, hb, rfl, _, _, rfl, rfl, mulW sp.n sq.dn, ?_⟩
  refine ⟨_, rfl, b, _, _, _, rfl, rfl, hb, rfl, _, rfl, a, _, _, _, rfl, rfl, ha, rfl, _, _, rfl, rfl, mulW sq.n sp.dn, _, _, rfl, rfl, ?_⟩
  refine ⟨_, rfl, a, _, _, _, rfl, rfl, ha, rfl, _, rfl, b, _, _, _, rfl, rfl, hb, rfl, _, _, rfl, rfl, mulW sp.dn sq.dn, ?_⟩
  refine ⟨_, _, rfl, den_mul0 p q, mul_lim sp.dn sq.dn, fun r hr => k _ _ (same_new hr _) ?_⟩
  have e := dv_low (K := K) (H := H) (t := p.num * (q.den : Int) - q.num * (p.den : Int)) (b := (p.den : Int) * (q.den : Int)) (p := r) (den_mul0 p q)
  rw [Fr.less_rat] at e
  exact e
theorem c_product_of (T : Txt K mg ad) : CalB P w K mg base true 3 "product_of" ["one", "other"] (PR K (RBin fun p q => p * q)) := by
  have C_ratio_of := c_ratio_of (P := P) (w := w) (base := base) T
  refine T.t_product_of.calN sc_product_of (fun _ _ _ _ _ _ => by2 fun _ _ => rfl) (fun vs H Q E h => ?_) (fun f cdv A outer s H vs Q E hr h => ?_)
  · obtain ⟨_, _, dv, ⟨_, _, rfl, _⟩, _⟩ := h; exact dv.len
  obtain ⟨_, _, dv, ⟨p, q, rfl, sp, sq, rfl⟩, k⟩ := h
  obtain ⟨_, _, rfl, hx, hy⟩ := dv.two
  obtain ⟨a, rfl, ha⟩ := hx.fr
  obtain ⟨b, rfl, hb⟩ := hy.fr
  refine ⟨_, (pss_one (ps_ret (pe_cB C_ratio_of (hr.mono (by decide)) pass01 (pa_bin (pe_op op_mulW (pe_ix ix_tup (pv 0) pe_int (fun _ _ => rfl)) (pe_ix ix_tup (pv 1) pe_int (fun _ _ => rfl))) (pa_bin (pe_op op_mulW (pe_ix ix_tup (pv 0) pe_int (fun _ _ => rfl)) (pe_ix ix_tup (pv 1) pe_int (fun _ _ => rfl))) pa_nil))))), ?_⟩
  refine ⟨_, rfl, a, _, _, _, rfl, rfl, ha, rfl, _, rfl, b, _, _, _, rfl, rfl, hb, rfl, _, _, rfl, rfl, mulW sp.n sq.n, ?_⟩
  refine ⟨_, rfl, a, _, _, _, rfl, rfl, ha, rfl, _, rfl, b, _, _, _, rfl, rfl, hb, rfl, _, _, rfl, rfl, mulW sp.dn sq.dn, ?_⟩
  refine ⟨_, _, rfl, den_mul0 p q, mul_lim sp.dn sq.dn, fun r hr => k _ _ (same_new hr _) ?_⟩
  have e := dv_low (K := K) (H := H) (t := p.num * q.num) (b := (p.den : Int) * (q.den : Int)) (p := r) (den_mul0 p q)
  rw [Fr.prod_rat] at e
  exact e
theorem c_quotient_of (T : Txt K mg ad) : CalB P w K mg base true 3 "quotient_of" ["one", "other"] (PR K RQuo) := by
  have C_ratio_of := c_ratio_of (P := P) (w := w) (base := base) T
  refine T.t_quotient_of.calN sc_quotient_of (fun _ _ _ _ _ _ => by2 fun _ _ => rfl) (fun vs H Q E h => ?_) (fun f cdv A outer s H vs Q E hr h => ?_)
  · obtain ⟨_, _, dv, ⟨_, _, rfl, _⟩, _⟩ := h; exact dv.len
  obtain ⟨_, _, dv, ⟨p, q, rfl, sp, sq, q0, rfl⟩, k⟩ := h
  obtain ⟨_, _, rfl, hx, hy⟩ := dv.two
  obtain ⟨a, rfl, ha⟩ := hx.fr
  obtain ⟨b, rfl, hb⟩ := hy.fr
  refine ⟨_, (pss_one (ps_ret (pe_cB C_ratio_of (hr.mono (by decide)) pass01 (pa_bin (pe_op op_mulW (pe_ix ix_tup (pv 0) pe_int (fun _ _ => rfl)) (pe_ix ix_tup (pv 1) pe_int (fun _ _ => rfl))) (pa_bin (pe_op op_mulW (pe_ix ix_tup (pv 0) pe_int (fun _ _ => rfl)) (pe_ix ix_tup (pv 1) pe_int (fun _ _ => rfl))) pa_nil))))), ?_⟩
  refine ⟨_, rfl, a, _, _, _, rfl, rfl, ha, rfl, _, rfl, b, _, _, _, rfl, rfl, hb, rfl, _, _, rfl, rfl, mulW sp.n sq.dn, ?_⟩
  refine ⟨_, rfl, a, _, _, _, rfl, rfl, ha, rfl, _, rfl, b, _, _, _, rfl, rfl, hb, rfl, _, _, rfl, rfl, mulW sp.dn sq.n, ?_⟩
  have n0 : q.num ≠ 0 := fun e => q0 (Fr.num_zero q |>.mp e)
  have m0 : (p.den : Int) * q.num ≠ 0 := Int.mul_ne_zero (den0 p) n0
  refine ⟨_, _, rfl, m0, mul_lim sp.dn sq.n, fun r hr => k _ _ (same_new hr _) ?_⟩
  have e := dv_low (K := K) (H := H) (t := p.num * (q.den : Int)) (b := (p.den : Int) * q.num) (p := r) m0
  rw [Fr.quot_rat] at e
  exact e
theorem c_is_less (T : Txt K mg ad) : CalB P w K mg base true 1 "is_less" ["one", "other"] (PR K RLess) := by
  refine T.t_is_less.calN sc_is_less (fun _ _ _ _ _ _ => by2 fun _ _ => rfl) (fun vs H Q E h => ?_) (fun f cdv A outer s H vs Q E hr h => ?_)
  · obtain ⟨_, _, dv, ⟨_, _, rfl, _⟩, _⟩ := h; exact dv.len
  obtain ⟨_, _, dv, ⟨p, q, rfl, sp, sq, rfl⟩, k⟩ := h
  obtain ⟨_, _, rfl, hx, hy⟩ := dv.two
  obtain ⟨a, rfl, ha⟩ := hx.fr
  obtain ⟨b, rfl, hb⟩ := hy.fr
  refine ⟨_, (pss_one (ps_ret (pe_cmpR op_lt (pe_op op_mulW (pe_ix ix_tup (pv 0) pe_int (fun _ _ => rfl)) (pe_ix ix_tup (pv 1) pe_int (fun _ _ => rfl))) (pe_op op_mulW (pe_ix ix_tup (pv 1) pe_int (fun _ _ => rfl)) (pe_ix ix_tup (pv 0) pe_int (fun _ _ => rfl))) (nomark _)))), ?_⟩
  refine ⟨_, rfl, a, _, _, _, rfl, rfl, ha, rfl, _, rfl, b, _, _, _, rfl, rfl, hb, rfl, _, _, rfl, rfl, mulW sp.n sq.dn, ?_⟩
  refine ⟨_, rfl, b, _, _, _, rfl, rfl, hb, rfl, _, rfl, a, _, _, _, rfl, rfl, ha, rfl, _, _, rfl, rfl, mulW sq.n sp.dn, _, _, rfl, rfl, ?_⟩
  have e : decide (p.num * (q.den : Int) < q.num * (p.den : Int)) = decide (p < q) := decide_eq_decide.mpr (Fr.lt_rat p q)
  show Q (.bl (decide (p.num * (q.den : Int) < q.num * (p.den : Int)))) H
  rw [e]
  exact k _ _ (Same.refl _) (.bl _)
end
end K42
namespace K42
open PySem L2 Lib Fr Op
seal PE PT PW PA PS PSs PG PGs PI PO PIfs
section
variable {P : Program} {w : World} {K : PySem.W.Frag} {mg : Str → Option Value} {base : Heap} {ad : Adr} {c : Bool}
theorem k_Gap (T : Txt K mg ad) : MkC P w K mg base 1 "Gap" ad.Gap ["self", "length"] (spInit1 ad.Gap "length") := by
  refine T.ex.i_Gap.mkc sc_Gap_init (fun _ _ _ _ _ _ => by2 fun _ _ => rfl) (fun vs H Q E h => ?_) (fun f cdv A outer s H vs Q E hr h => ?_)
  · obtain ⟨a, dx, x, rfl, _⟩ := h; rfl
  obtain ⟨a, dx, x, rfl, ha, q⟩ := h
  refine ⟨_, (pss_one (ps_fldB (pv 0) (pv 1))), ?_⟩
  exact ⟨_, rfl, _, rfl, a, ad.Gap, dx, [], rfl, ha, T.ex.l_Gap, T.ex.n_Gap_length, by decide, q⟩
theorem k_Glass (T : Txt K mg ad) : MkC P w K mg base 1 "Glass" ad.Glass ["self", "strength"] (spInit1 ad.Glass "strength") := by
  refine T.ex.i_Glass.mkc sc_Glass_init (fun _ _ _ _ _ _ => by2 fun _ _ => rfl) (fun vs H Q E h => ?_) (fun f cdv A outer s H vs Q E hr h => ?_)
  · obtain ⟨a, dx, x, rfl, _⟩ := h; rfl
  obtain ⟨a, dx, x, rfl, ha, q⟩ := h
  refine ⟨_, (pss_one (ps_fldB (pv 0) (pv 1))), ?_⟩
  exact ⟨_, rfl, _, rfl, a, ad.Glass, dx, [], rfl, ha, T.ex.l_Glass, T.ex.n_Glass_strength, by decide, q⟩
theorem k_Stop (T : Txt K mg ad) : MkC P w K mg base 1 "Stop" ad.Stop ["self", "low", "high"] (spInit2 ad.Stop "low" "high") := by
  refine T.ex.i_Stop.mkc sc_Stop_init (fun _ _ _ _ _ _ => by3 fun _ _ _ => rfl) (fun vs H Q E h => ?_) (fun f cdv A outer s H vs Q E hr h => ?_)
  · obtain ⟨a, dx, x, y, rfl, _⟩ := h; rfl
  obtain ⟨a, dx, x, y, rfl, ha, q⟩ := h
  refine ⟨_, (pss_cons (ps_fldB (pv 0) (pv 1)) (pss_one (ps_fldB (pv 0) (pv 2)))), ?_⟩
  refine ⟨_, rfl, _, rfl, a, ad.Stop, dx, [], rfl, ha, T.ex.l_Stop, T.ex.n_Stop_low, by decide, ?_⟩
  refine ⟨_, rfl, _, rfl, a, ad.Stop, dx, _, rfl, upd_same, T.ex.l_Stop, T.ex.n_Stop_high, (by show 1 < 1000; decide), ?_⟩
  rw [upd_upd]
  exact q
theorem mc_Stop_bent (T : Txt K mg ad) : MC P w K mg base 4 ad.Stop "bent" ["self", "ray"] spId := by
  refine T.ex.q_Stop_bent.mc sc_Piece_bent (fun _ _ _ _ _ _ => by2 fun _ _ => rfl) (fun vs H Q E h => ?_) (fun f cdv A outer s H vs Q E hr h => ?_)
  · obtain ⟨x, y, rfl, _⟩ := h; rfl
  obtain ⟨x, y, rfl, q⟩ := h
  exact ⟨_, (pss_one (ps_ret (pv 1))), _, rfl, q⟩
theorem mc_Gap_bent (T : Txt K mg ad) : MC P w K mg base 4 ad.Gap "bent" ["self", "ray"] (spOb K ad.Gap ad.Glass ad.Stop (fun p r => rayD (p.bent r)) isGap) := by
  have C_sum_of := c_sum_of (P := P) (w := w) (base := base) T
  have C_product_of := c_product_of (P := P) (w := w) (base := base) T
  refine T.ex.q_Gap_bent.mc sc_Gap_bent (fun _ _ _ _ _ _ => by2 fun _ _ => rfl) (fun vs H Q E h => ?_) (fun f cdv A outer s H vs Q E hr h => ?_)
  · obtain ⟨_, _, _, _, _, _, rfl, _⟩ := h; rfl
  obtain ⟨o, y, p, r, n, m, rfl, hc, ho, hy, rb, pb, hnm, k⟩ := h
  cases ho with
  | glass _ _ => exact hc.elim
  | stop _ _ _ => exact hc.elim
  | @gap a dx x1 d ha h1 =>
    have pb : Bd m d := pb
    obtain ⟨ra, y1, y2, rfl, hra, hy1, hy2⟩ := hy.t2
    refine ⟨_, (pss_one (ps_ret (pe_tup (pa_call (pe_cB C_sum_of (hr.mono (by decide)) pass01 (pa_sub (pe_ix ix_tup (pv 1) pe_int (fun _ _ => rfl)) (pa_call (pe_cB C_product_of (hr.mono (by decide)) pass01 (pa_cons (pe_fldB (pv 0)) (pa_sub (pe_ix ix_tup (pv 1) pe_int (fun _ _ => rfl)) pa_nil))) pa_nil))) (pa_sub (pe_ix ix_tup (pv 1) pe_int (fun _ _ => rfl)) pa_nil))))), ?_⟩
    refine ⟨_, rfl, ra, _, _, _, rfl, rfl, hra, rfl, ?_⟩
    refine ⟨_, rfl, a, _, _, _, _, rfl, ha, T.ex.l_Gap, T.ex.n_Gap_length, rfl, _, rfl, ra, _, _, _, rfl, rfl, hra, rfl, ?_⟩
    refine ⟨_, _, .cons h1 (.cons hy2 .nil), ⟨_, _, rfl, pb.sm (le_b hnm), rb.u.sm (le_a hnm), rfl⟩, fun v H1 s1 hv => ?_⟩
    refine ⟨_, _, .cons (hy1.keep s1) (.cons hv .nil), ⟨_, _, rfl, rb.y.sm (le_a hnm), (pb.mul rb.u).sm (le_ba hnm), rfl⟩, fun v2 H2 s2 hv2 => ?_⟩
    refine ⟨_, rfl, ra, _, _, _, rfl, rfl, hra.keep (s1.trans s2), rfl, (by show 2 ≤ sizeLine; decide), fun t ht => ?_⟩
    exact k _ _ ((s1.trans s2).trans (same_new ht _)) (DV.upd2 ht hv2 (hy2.keep (s1.trans s2)))
theorem mc_Glass_bent (T : Txt K mg ad) : MC P w K mg base 4 ad.Glass "bent" ["self", "ray"] (spOb K ad.Gap ad.Glass ad.Stop (fun p r => rayD (p.bent r)) isGlass) := by
  have C_less_by := c_less_by (P := P) (w := w) (base := base) T
  have C_product_of := c_product_of (P := P) (w := w) (base := base) T
  refine T.ex.q_Glass_bent.mc sc_Glass_bent (fun _ _ _ _ _ _ => by2 fun _ _ => rfl) (fun vs H Q E h => ?_) (fun f cdv A outer s H vs Q E hr h => ?_)
  · obtain ⟨_, _, _, _, _, _, rfl, _⟩ := h; rfl
  obtain ⟨o, y, p, r, n, m, rfl, hc, ho, hy, rb, pb, hnm, k⟩ := h
  cases ho with
  | gap _ _ => exact hc.elim
  | stop _ _ _ => exact hc.elim
  | @glass a dx x1 d ha h1 =>
    have pb : Bd m d := pb
    obtain ⟨ra, y1, y2, rfl, hra, hy1, hy2⟩ := hy.t2
    refine ⟨_, (pss_one (ps_ret (pe_tup (pa_sub (pe_ix ix_tup (pv 1) pe_int (fun _ _ => rfl)) (pa_call (pe_cB C_less_by (hr.mono (by decide)) pass01 (pa_sub (pe_ix ix_tup (pv 1) pe_int (fun _ _ => rfl)) (pa_call (pe_cB C_product_of (hr.mono (by decide)) pass01 (pa_cons (pe_fldB (pv 0)) (pa_sub (pe_ix ix_tup (pv 1) pe_int (fun _ _ => rfl)) pa_nil))) pa_nil))) pa_nil))))), ?_⟩
    refine ⟨_, rfl, ra, _, _, _, rfl, rfl, hra, rfl, ?_⟩
    refine ⟨_, rfl, ra, _, _, _, rfl, rfl, hra, rfl, ?_⟩
    refine ⟨_, rfl, a, _, _, _, _, rfl, ha, T.ex.l_Glass, T.ex.n_Glass_strength, rfl, _, rfl, ra, _, _, _, rfl, rfl, hra, rfl, ?_⟩
    refine ⟨_, _, .cons h1 (.cons hy1 .nil), ⟨_, _, rfl, pb.sm (le_b hnm), rb.y.sm (le_a hnm), rfl⟩, fun v H1 s1 hv => ?_⟩
    refine ⟨_, _, .cons (hy2.keep s1) (.cons hv .nil), ⟨_, _, rfl, rb.u.sm (le_a hnm), (pb.mul rb.y).sm (le_ba hnm), rfl⟩, fun v2 H2 s2 hv2 => ?_⟩
    refine ⟨(by show 2 ≤ sizeLine; decide), fun t ht => ?_⟩
    exact k _ _ ((s1.trans s2).trans (same_new ht _)) (DV.upd2 ht (hy1.keep (s1.trans s2)) hv2)
theorem ob_bent (T : Txt K mg ad) {H : Hp} {v y : V} {p : Pc} {r : Ray} {n m : Nat} (h : ObAt K ad.Gap ad.Glass ad.Stop H v p) (hy : DV K H y (rayD r)) (rb : RB n r) (pb : p.bd m) (hnm : n + m ≤ 3900) :
    ∃ (a C dx : Addr) (fs : List (Str × V)) (ps : List Str) (sp : Sp), v = .ref a ∧ H a = some (.ins C dx fs) ∧ fs.lookup ("bent" : Str) = none ∧ MC P w K mg base 4 C "bent" ps sp ∧ ∀ Q : VK, (∀ v H', Same H H' → DV K H' v (rayD (p.bent r)) → Q v H') → sp [v, y] H Q E0 := by
  cases id h with
  | gap ha hx => exact ⟨_, _, _, _, _, _, rfl, ha, rfl, mc_Gap_bent T, fun Q k => ⟨_, _, .gap _, r, n, m, rfl, trivial, h, hy, rb, pb, hnm, k⟩⟩
  | glass ha hx => exact ⟨_, _, _, _, _, _, rfl, ha, rfl, mc_Glass_bent T, fun Q k => ⟨_, _, .glass _, r, n, m, rfl, trivial, h, hy, rb, pb, hnm, k⟩⟩
  | stop ha hx hz => exact ⟨_, _, _, _, _, _, rfl, ha, rfl, mc_Stop_bent T, fun Q k => ⟨_, _, rfl, k _ _ (Same.refl _) hy⟩⟩
theorem c_piece_of (T : Txt K mg ad) : CalB P w K mg base true 3 "piece_of" ["told"] (spPc K ad.Gap ad.Glass ad.Stop) := by
  have M_Gap := k_Gap (P := P) (w := w) (base := base) T
  have M_Glass := k_Glass (P := P) (w := w) (base := base) T
  have M_Stop := k_Stop (P := P) (w := w) (base := base) T
  refine T.t_piece_of.calN sc_piece_of (fun _ _ _ _ _ _ => by1 fun _ => rfl) (fun vs H Q E h => ?_) (fun f cdv A outer s H vs Q E hr h => ?_)
  · obtain ⟨v, p, rfl, _⟩ := h; rfl
  obtain ⟨v, p, rfl, hv, q⟩ := h
  refine ⟨_, (pss_cons (ps_if (pt_cmpR op_eq (pe_ix ix_tup (pv 0) pe_int (fun _ _ => rfl)) (pe_glob (v := .str "gap") rfl T.ex.m_GAP ⟨_, rfl⟩) (nomark _)) (pss_one (ps_ret (pe_mkB M_Gap (hr.mono (by decide)) (pa_sub (pe_ix ix_tup (pv 0) pe_int (fun _ _ => rfl)) pa_nil)))) pss_nil) (pss_cons (ps_if (pt_cmpR op_eq (pe_ix ix_tup (pv 0) pe_int (fun _ _ => rfl)) (pe_glob (v := .str "glass") rfl T.ex.m_GLASS ⟨_, rfl⟩) (nomark _)) (pss_one (ps_ret (pe_mkB M_Glass (hr.mono (by decide)) (pa_sub (pe_ix ix_tup (pv 0) pe_int (fun _ _ => rfl)) pa_nil)))) pss_nil) (pss_one (ps_ret (pe_mkB M_Stop (hr.mono (by decide)) (pa_sub (pe_ix ix_tup (pv 0) pe_int (fun _ _ => rfl)) (pa_sub (pe_ix ix_tup (pv 0) pe_int (fun _ _ => rfl)) pa_nil))))))), ?_⟩
  cases p with
  | gap d =>
    obtain ⟨a, x, y, rfl, ha, hx, hy⟩ := DV.t2 hv
    obtain rfl := hx.str_of
    refine ⟨_, rfl, a, _, _, _, rfl, rfl, ha, rfl, rfl, _, rfl, iteT' (by decide) ?_⟩
    refine ⟨_, rfl, a, _, _, _, rfl, rfl, ha, rfl, fun o dx ho hdx hne => ⟨o, dx, y, rfl, upd_same, rfl, ?_⟩⟩
    have s1 : Same H (upd H dx (.own o)) := same_new hdx _
    have ho' : upd H dx (.own o) o = none := by rw [upd_ne (Ne.symm hne)]; exact ho
    have s2 := s1.trans (same_new ho' (.ins ad.Gap dx [("length", y)]))
    rw [upd_upd]
    exact q _ _ s2 (.gap upd_same (hy.keep s2))
  | glass d =>
    obtain ⟨a, x, y, rfl, ha, hx, hy⟩ := DV.t2 hv
    obtain rfl := hx.str_of
    refine ⟨_, rfl, a, _, _, _, rfl, rfl, ha, rfl, rfl, _, rfl, iteF' (by decide) ?_⟩
    refine ⟨_, rfl, a, _, _, _, rfl, rfl, ha, rfl, rfl, _, rfl, iteT' (by decide) ?_⟩
    refine ⟨_, rfl, a, _, _, _, rfl, rfl, ha, rfl, fun o dx ho hdx hne => ⟨o, dx, y, rfl, upd_same, rfl, ?_⟩⟩
    have s1 : Same H (upd H dx (.own o)) := same_new hdx _
    have ho' : upd H dx (.own o) o = none := by rw [upd_ne (Ne.symm hne)]; exact ho
    have s2 := s1.trans (same_new ho' (.ins ad.Glass dx [("strength", y)]))
    rw [upd_upd]
    exact q _ _ s2 (.glass upd_same (hy.keep s2))
  | stop lo hi =>
    obtain ⟨a, x, y, z, rfl, ha, hx, hy, hz⟩ := DV.t3 hv
    obtain rfl := hx.str_of
    refine ⟨_, rfl, a, _, _, _, rfl, rfl, ha, rfl, rfl, _, rfl, iteF' (by decide) ?_⟩
    refine ⟨_, rfl, a, _, _, _, rfl, rfl, ha, rfl, rfl, _, rfl, iteF' (by decide) ?_⟩
    refine ⟨_, rfl, a, _, _, _, rfl, rfl, ha, rfl, _, rfl, a, _, _, _, rfl, rfl, ha, rfl, fun o dx ho hdx hne => ⟨o, dx, y, z, rfl, upd_same, rfl, ?_⟩⟩
    have s1 : Same H (upd H dx (.own o)) := same_new hdx _
    have ho' : upd H dx (.own o) o = none := by rw [upd_ne (Ne.symm hne)]; exact ho
    have s2 := s1.trans (same_new ho' (.ins ad.Stop dx [("low", y), ("high", z)]))
    rw [upd_upd]
    exact q _ _ s2 (.stop upd_same (hy.keep s2) (hz.keep s2))
theorem c_is_piece (T : Txt K mg ad) : CalB P w K mg base true 3 "is_piece" ["thing"] (spPieceG K) := by
  have C_is_ratio := c_is_ratio (P := P) (w := w) (base := base) T
  have C_is_less := c_is_less (P := P) (w := w) (base := base) T
  refine T.t_is_piece.calN sc_is_piece (fun _ _ _ _ _ _ => by1 fun _ => rfl) (fun vs H Q E h => ?_) (fun f cdv A outer s H vs Q E hr h => ?_)
  · obtain ⟨_, _, _, rfl, _⟩ := h; rfl
  obtain ⟨v, pc, m, rfl, hv, ok, pb, hm, q⟩ := h
  obtain ⟨z, es, ee, sh⟩ := pc_shape ok pb
  rw [ee] at hv
  obtain ⟨a, xs, rfl, ha, hds⟩ := hv.tup_of
  obtain ⟨x0, xr, rfl, h0, hr'⟩ := hds.cons_of
  obtain rfl := h0.str_of
  have hl := hr'.len
  rw [List.length_map] at hl
  have hl2 := sh.len
  obtain ⟨tR, hR, kR⟩ : ∃ t, PSs (cxB true P w K mg base ["thing"] "is_piece" (defScope s_is_piece) f cdv A outer s H E).nox ((defBody s_is_piece).drop 2) t ∧ ∀ (D : Ends) (H2 : Hp), Same H H2 → (∀ H', Same H H' → D.rt (.bl true) H') → t D [some (.ref a)] H2 := by
    refine ⟨_, (pss_cons (ps_if (pt_cmpR op_eq (pe_ix ix_tup (pv 0) pe_int (fun _ _ => rfl)) (pe_glob (v := .str "stop") rfl T.ex.m_STOP ⟨_, rfl⟩) (nomark _)) (pss_one (ps_ret (pe_and (pe_cmpR op_eq (pe_callB call_len_seq rfl T.len bt_len (pa_name (pv 0) pa_nil)) pe_int (nomark _)) (pe_one (pe_not (pe_cB C_is_less (hr.mono (by decide)) pass01 (pa_sub (pe_ix ix_tup (pv 0) pe_int (fun _ _ => rfl)) (pa_sub (pe_ix ix_tup (pv 0) pe_int (fun _ _ => rfl)) pa_nil)))))))) pss_nil) (pss_one (ps_ret (pe_and (pe_cmpR op_in_seq (pe_ix ix_tup (pv 0) pe_int (fun _ _ => rfl)) (pe_tup (pa_name (pe_glob (v := .str "gap") rfl T.ex.m_GAP ⟨_, rfl⟩) (pa_name (pe_glob (v := .str "glass") rfl T.ex.m_GLASS ⟨_, rfl⟩) pa_nil))) (by rfl)) (pe_one (pe_cmpR op_eq (pe_callB call_len_seq rfl T.len bt_len (pa_name (pv 0) pa_nil)) pe_int (nomark _))))))), ?_⟩
    intro D H2 t2 q
    refine ⟨_, rfl, a, _, _, _, rfl, rfl, ha.keep t2, atI0, rfl, _, rfl, ?_⟩
    rw [decS]
    cases sh with
    | stop nlt blo bhi =>
      obtain ⟨x1, x2, rfl, h1, h2⟩ := hr'.two
      refine iteT' (by decide) ?_
      refine ⟨_, rfl, a, _, rfl, .inr (ha.keep t2), rfl, _, rfl, iteT ?_⟩
      refine ⟨_, rfl, a, _, _, _, rfl, rfl, ha.keep t2, rfl, _, rfl, a, _, _, _, rfl, rfl, ha.keep t2, rfl, ?_⟩
      refine ⟨_, _, .cons (h2.keep t2) (.cons (h1.keep t2) .nil), ⟨_, _, rfl, bhi.sm hm, blo.sm hm, rfl⟩, fun v H3 s3 hv => ?_⟩
      obtain rfl := hv.bl_of
      refine ⟨_, rfl, ?_⟩
      rw [decide_eq_false nlt]
      exact q _ (t2.trans s3)
    | one e1 e2 =>
      refine iteF' e1 ?_
      refine ⟨_, rfl, a, _, _, _, rfl, rfl, ha.keep t2, atI0, (by show 2 ≤ sizeLine; decide), fun p3 hp3 => ?_⟩
      have t3 := t2.trans (same_new hp3 (.tup [.str "gap", .str "glass"]))
      refine ⟨p3, _, rfl, .inr (SqT.of upd_same), rfl, rfl, _, rfl, iteT' ((in_words z).trans e2) ?_⟩
      refine ⟨_, rfl, a, _, rfl, .inr (ha.keep t3), rfl, ?_⟩
      have el2 : xr.length = 1 := hl
      show D.rt (.bl (decide (V.int ((xr.length + 1 : Nat) : Int) = V.int 2))) _
      rw [el2]
      exact q _ t3
  refine ⟨_, (pss_cons (ps_if (PW.pt (pw_or (pt_not (pt_val (pe_callB call_isiD rfl T.isinstance bt_isinstance (pa_name (pv 0) (pa_name (pe_bltn (v := .ty "tuple") rfl T.tuple bt_tuple rfl) pa_nil))))) (pw_or (pt_cmpR op_lt (pe_callB call_len_seq rfl T.len bt_len (pa_name (pv 0) pa_nil)) pe_int (nomark _)) (pw_or1 (pt_not (pt_val (pe_callB call_isiD rfl T.isinstance bt_isinstance (pa_sub (pe_ix ix_tup (pv 0) pe_int (fun _ _ => rfl)) (pa_name (pe_bltn (v := .ty "str") rfl T.str bt_str rfl) pa_nil))))))))) (pss_one (ps_ret pe_bl)) pss_nil) (pss_cons (ps_if (pt_not (pt_val (pe_callB (call_all rfl) rfl T.all bt_all (pa_cons (pe_comp ["part"] [none] rfl (pi_tup (pe_slice sl_tup (pv 0) (po_some pe_int) po_none)) (fun _ _ _ _ _ => (pg_name (i := 0) (show List.Nodup [("part" : Str)] by decide) rfl (by first | exact Or.inl rfl | exact Or.inr rfl))) (fun _ _ _ _ _ => pifs_nil) (fun _ _ _ _ _ => (pe_cB C_is_ratio (hr.mono (by decide)) pass01 (pa_name (pv 0) pa_nil))) (cap_nil (by decide) (by decide)) (by decide) rfl (by decide) rfl (nocap rfl)) pa_nil)))) (pss_one (ps_ret pe_bl)) pss_nil) hR)), ?_⟩
  refine ⟨_, rfl, _, _, _, _, rfl, hv, isTup_b _, _, rfl, iteF ?_⟩
  refine ⟨_, rfl, a, _, rfl, .inr ha, _, _, rfl, rfl, _, rfl, iteF' (decide_eq_false (by simp only [List.length_cons]; omega)) ?_⟩
  refine ⟨_, rfl, a, _, _, _, rfl, rfl, ha, atI0, _, _, _, _, rfl, h0, isStr_b _, _, rfl, iteF ?_⟩
  refine ⟨_, rfl, _, rfl, a, _, rfl, ha, (fun e => by rw [sIx1] at e; simp only [List.length_cons] at e; omega), fun p hp => ⟨p, rfl, ⟨_, SqT.of upd_same⟩, ?_⟩⟩
  rw [cut1]
  have u1 := same_new hp (.tup ((V.str z :: xr).drop 1))
  have hparts := hr'.keep u1
  have hp' : upd H p (.tup ((V.str z :: xr).drop 1)) p = some (.tup xr) := upd_same
  generalize upd H p (.tup ((V.str z :: xr).drop 1)) = H1 at u1 hparts hp' ⊢
  refine comp_tup0 (K := K) (a := p) (xs := xr) (fun i σ ys H' => ∃ c0, σ = [c0] ∧ ys = List.replicate i (V.bl true) ∧ Same H1 H') ⟨_, rfl, rfl, Same.refl _⟩ ?_ ?_ ?_
  · rintro i σ ys H' hi ⟨c0, rfl, rfl, s'⟩
    refine ⟨?_, SqT.of (s' _ _ hp')⟩
    have z2 := small1000 (n := 1000) (by decide)
    rw [List.length_replicate]
    omega
  · rintro i x σ ys H' hi ⟨c0, rfl, rfl, s'⟩
    obtain ⟨dx, hdx, hx⟩ := hparts.get hi
    obtain ⟨q0, rfl⟩ := get_fr hdx
    exact ⟨_, rfl, _, q0, rfl, hx.keep s', nx (lt_of_get hi) ⟨_, rfl, List.replicate_succ'.symm, s'⟩⟩
  · rintro σ ys H' p2 ⟨c0, rfl, rfl, s'⟩ hp2
    have u2 := same_new hp2 (.lst (List.replicate xr.length (V.bl true)))
    refine ⟨p2, List.replicate xr.length true, rfl, SqL.of (by rw [rep_map]; exact upd_same), _, rfl, ?_⟩
    rw [all_rep]
    exact iteF (kR _ _ (u1.trans (s'.trans u2)) q)
theorem c_look_at (T : Txt K mg ad) : CalB P w K mg base true 4 "look_at" ["bench"] (spLook K) := by
  have C_is_piece := c_is_piece (P := P) (w := w) (base := base) T
  refine T.t_look_at.calN sc_look_at (fun _ _ _ _ _ _ => by1 fun _ => rfl) (fun vs H Q E h => ?_) (fun f cdv A outer s H vs Q E hr h => ?_)
  · obtain ⟨_, _, _, rfl, _⟩ := h; rfl
  obtain ⟨v, ps, m, rfl, hv, g, hm, q⟩ := h
  obtain ⟨a, xs, rfl, ha, hxs⟩ := DV.lst_of hv
  have hl : xs.length = ps.length := by have := hxs.len; rw [List.length_map] at this; exact this
  have gl := g.len
  refine ⟨_, (pss_cons (ps_if (PW.pt (pw_or (pt_not (pt_val (pe_callB call_isiD rfl T.isinstance bt_isinstance (pa_name (pv 0) (pa_name (pe_bltn (v := .ty "list") rfl T.list bt_list rfl) pa_nil))))) (pw_or1 (pt_cmpR op_gt (pe_callB call_len_seq rfl T.len bt_len (pa_name (pv 0) pa_nil)) (pe_glob (v := .int 60) rfl T.ex.m_MOST_PIECES ⟨_, rfl⟩) (nomark _))))) (pss_one ps_never) pss_nil) (pss_one (ps_for PassesOwn.never rfl (pi_enum rfl T.enumerate (pa_name (pv 0) pa_nil)) (pg_tup (n := 2) rfl (pgs_cons (pg_name (i := 1) sc_look_at.nd rfl (by first | exact Or.inl rfl | exact Or.inr rfl)) (pgs_cons (pg_name (i := 2) sc_look_at.nd rfl (by first | exact Or.inl rfl | exact Or.inr rfl)) pgs_nil))) (pss_one (ps_if (pt_not (pt_val (pe_cB C_is_piece (hr.mono (by decide)) pass01 (pa_name (pv 2) pa_nil)))) (pss_one ps_never) pss_nil))))), ?_⟩
  refine ⟨_, rfl, _, _, _, _, rfl, hv, isLst_b _, _, rfl, ?_⟩
  refine iteF ?_
  refine ⟨_, rfl, a, _, rfl, .inl ha, _, _, rfl, rfl, _, rfl, iteF' (decide_eq_false (by omega)) ?_⟩
  refine ⟨_, rfl, a, rfl, ⟨_, ha⟩, ?_⟩
  refine for_enum (K := K) (a := a) (xs := xs) (fun i σ H' => ∃ c1 c2, σ = [some (.ref a), c1, c2] ∧ Same H H') ⟨_, _, rfl, Same.refl _⟩ ?_ ?_ ?_
  · rintro i σ H' hi ⟨c1, c2, rfl, s1⟩
    exact ha.keep s1
  · rintro i x σ H' p hi ⟨c1, c2, rfl, s1⟩ hp
    obtain ⟨d, hd, hx⟩ := hxs.get hi
    obtain ⟨pc, hpc, rfl⟩ := get_map_pc hd
    have hmem := List.mem_of_getElem? hpc
    have s2 := s1.trans (same_new hp (.tup [.int i, x]))
    refine ⟨p, _, rfl, SqT.of upd_same, rfl, _, _, rfl, _, _, rfl, rfl, ?_⟩
    exact ⟨_, rfl, _, _, _, rfl, hx.keep s2, g.ok _ hmem, g.bd _ hmem, hm, fun H3 s3 => ⟨_, rfl, iteF ⟨_, _, rfl, s2.trans s3⟩⟩⟩
  · rintro σ H' ⟨c1, c2, rfl, s1⟩
    exact q _ s1
end
end K42
namespace K42
open PySem L2 Lib Fr Op
seal PE PT PW PA PS PSs PG PGs PI PO PIfs
section
variable {P : Program} {w : World} {K : PySem.W.Frag} {mg : Str → Option Value} {base : Heap} {ad : Adr} {c : Bool}
theorem dN (T : Txt K mg ad) (H : Hp) : DV K H (.ref ad.NOUGHT) (frD 0) := .tup (T.ex.s_NOUGHT H) (.cons (.int 0) (.cons (.int 1) .nil))
theorem dO (T : Txt K mg ad) (H : Hp) : DV K H (.ref ad.ONE) (frD 1) := .tup (T.ex.s_ONE H) (.cons (.int 1) (.cons (.int 1) .nil))
end
end K42
namespace K42
open PySem L2 Lib Fr Op
seal PE PT PW PA PS PSs PG PGs PI PO PIfs
section
variable {P : Program} {w : World} {K : PySem.W.Frag} {mg : Str → Option Value} {base : Heap} {ad : Adr} {c : Bool}
theorem c__law_mix (T : Txt K mg ad) : CalB P w K mg base true 1 "_law_mix" ["_law_cell", "_law_by", "_law_many"] spMixG := by
  refine T.t__law_mix.calN sc__law_mix (fun _ _ _ _ _ _ => by3 fun _ _ _ => rfl) (fun vs H Q E h => ?_) (fun f cdv A outer s H vs Q E hr h => ?_)
  · obtain ⟨_, _, _, rfl, _⟩ := h; rfl
  obtain ⟨z, b, m, rfl, b0, b1, m0, q⟩ := h
  refine ⟨_, (pss_one (ps_ret (pe_op op_mod (pe_op op_fdiv (pe_op op_mod (pe_op op_add (pe_op op_mul (pe_op op_mod (pv 0) pe_int) (pv 1)) (pv 1)) pe_int) pe_int) (pv 2)))), ?_⟩
  have fin : ∀ x : Int, Q (.int (x % m)) H := fun x => q _ (Int.emod_nonneg _ (by omega)) (Int.emod_lt_of_pos _ m0)
  have p32 : (2 : Int) ^ 32 = 4294967296 := by decide
  exact ⟨_, rfl, _, _, rfl, rfl, (by show (0 : Int) < 1000003; decide), _, rfl, _, _, rfl, rfl, .inr ⟨by omega, by omega⟩, _, rfl, _, _, rfl, rfl, _, _, rfl, rfl, (by show (0 : Int) < 2147483629; decide), _, _, rfl, rfl, ⟨by decide, by decide⟩, _, rfl, _, _, rfl, rfl, m0, fin _⟩
theorem c__law_ratio (T : Txt K mg ad) : CalB P w K mg base true 3 "_law_ratio" ["_law_cell", "_law_by"] (spRatC K) := by
  have C__law_mix := c__law_mix (P := P) (w := w) (base := base) T
  have C_ratio_of := c_ratio_of (P := P) (w := w) (base := base) T
  refine T.t__law_ratio.calN sc__law_ratio (fun _ _ _ _ _ _ => by2 fun _ _ => rfl) (fun vs H Q E h => ?_) (fun f cdv A outer s H vs Q E hr h => ?_)
  · obtain ⟨_, _, rfl, _⟩ := h; rfl
  obtain ⟨z, b, rfl, b0, b1, q⟩ := h
  refine ⟨_, (pss_cons (ps_set (i := 2) sc__law_ratio.nd rfl (Or.inl rfl) (pe_cB C__law_mix (hr.mono (by decide)) pass01 (pa_name (pv 0) (pa_name (pv 1) (pa_const pe_int pa_nil))))) (pss_one (ps_ret (pe_cB C_ratio_of (hr.mono (by decide)) pass01 (pa_bin (pe_op op_sub (pe_op op_mod (pv 2) pe_int) pe_int) (pa_bin (pe_op op_add pe_int (pe_op op_mod (pe_op op_fdiv (pv 2) pe_int) pe_int)) pa_nil)))))), ?_⟩
  refine ⟨_, rfl, _, rfl, z, b, _, rfl, b0, b1, (by decide), fun x x0 x1 => ?_⟩
  refine ⟨_, rfl, _, _, rfl, rfl, (by show (0 : Int) < 199; decide), _, _, rfl, rfl, ?_⟩
  refine ⟨_, rfl, _, _, rfl, rfl, ⟨by decide, by decide⟩, _, _, rfl, rfl, (by show (0 : Int) < 9; decide), _, _, rfl, rfl, ?_⟩
  have p7 : (2 : Nat) ^ 7 = 128 := by decide
  have c0 : (1 + x / 199 % 9 : Int) ≠ 0 := by omega
  have cs : (1 + x / 199 % 9 : Int).natAbs < 2 ^ 7 := by omega
  refine ⟨_, _, rfl, c0, Nat.lt_of_lt_of_le cs (by unfold lim; exact pow_le (by decide)), fun p3 hp3 => ?_⟩
  exact q _ _ _ (same_new hp3 _) (dv_low c0) (Bd.of c0 (by show (x % 199 - 99 : Int).natAbs < 2 ^ 7; omega) cs)
end
end K42
namespace K42
open PySem L2 Lib Fr Op
seal PE PT PW PA PS PSs PG PGs PI PO PIfs
local macro_rules | `(tactic| walk_at "Zs") => `(tactic| first | with_reducible assumption | with_reducible exact Same.refl _ | exact zs1 (by with_reducible assumption) (by walk_at "Zs") | exact zs2 (by with_reducible assumption) (by walk_at "Zs"))
local macro_rules | `(tactic| walk_at "Zd") => `(tactic| first | with_reducible assumption | with_reducible exact DV.int _ | with_reducible exact DV.str _ | with_reducible exact DV.bl _ | with_reducible exact DV.non | exact zd1 (by first | with_reducible assumption | assumption) (by walk_at "Zs") | with_reducible exact dN (by assumption) _ | with_reducible exact dO (by assumption) _ | exact zd2 (by with_reducible assumption) (by walk_at "Zs") (by walk_at "Zd") (by walk_at "Zd") | exact zd3 (by with_reducible assumption) (by walk_at "Zs") (by walk_at "Zd") (by walk_at "Zd") (by walk_at "Zd") | exact zd4 (by with_reducible assumption) (by walk_at "Zs") (by walk_at "Zd") (by walk_at "Zd") (by walk_at "Zd") (by walk_at "Zd"))
local macro_rules | `(tactic| walk_at "Zt") => `(tactic| first | assumption | exact zt1 (by assumption) (by walk_at "Zs") | exact zt2 (by walk_at "Zs"))
local macro_rules | `(tactic| walk_at "Zl") => `(tactic| first | assumption | exact zl1 (by assumption) (by walk_at "Zs") | exact zl2 (by walk_at "Zs"))
local macro_rules | `(tactic| walk_at "Zv") => `(tactic| first | exact DVs.nil | exact DVs.cons (by walk_at "Zd") (by walk_at "Zv"))
local macro_rules | `(tactic| walk_at "Zb") => `(tactic| first | with_reducible assumption | exact bd_zero 1 (by decide) | exact bd_one 1 (by decide) | with_reducible exact Bd.mul (by walk_at "Zb") (by walk_at "Zb") | with_reducible exact Bd.add (by walk_at "Zb") (by walk_at "Zb") | with_reducible exact Bd.sub (by walk_at "Zb") (by walk_at "Zb") | with_reducible exact Tb.a (by with_reducible assumption) | with_reducible exact Tb.b (by with_reducible assumption) | with_reducible exact Tb.c (by with_reducible assumption) | with_reducible exact Tb.d (by with_reducible assumption) | with_reducible exact Rb.y (by with_reducible assumption) | with_reducible exact Rb.u (by with_reducible assumption))
local macro_rules | `(tactic| walk_at "Zm") => `(tactic| first | with_reducible assumption | with_reducible exact Sm.zero | with_reducible exact Sm.one | exact Bd.sm (by walk_at "Zb") (by first | decide | omega))
local macro_rules | `(tactic| walk_at "Zr") => `(tactic| first | exact ⟨_, _, rfl, by walk_at "Zm", by walk_at "Zm", rfl⟩ | exact ⟨_, _, rfl, by walk_at "Zm", by walk_at "Zm", by assumption, rfl⟩)
local macro_rules | `(tactic| walk_at "Zc") => `(tactic| (refine ⟨_, _, by walk_at "Zv", by walk_at "Zr", fun v H' s hv => ?_⟩; (first | (obtain rfl := DV.bl_of hv) | (have := (show DV _ _ _ (frD _) from hv); clear this) | (obtain ⟨a, x1, x2, x3, x4, rfl, ha, h1, h2, h3, h4⟩ := DV.t4 hv) | (obtain ⟨a, x1, x2, x3, rfl, ha, h1, h2, h3⟩ := DV.t3 hv) | (obtain ⟨a, x1, x2, rfl, ha, h1, h2⟩ := DV.t2 hv) | skip)))
local macro_rules | `(tactic| walk_at "Zp") => `(tactic| first | refine ⟨by (show 2 ≤ sizeLine; decide), fun p hp => ?_⟩ | refine ⟨by (show 3 ≤ sizeLine; decide), fun p hp => ?_⟩ | refine ⟨by (show 4 ≤ sizeLine; decide), fun p hp => ?_⟩)
local macro_rules | `(tactic| walk_at "Zn") => `(tactic| first | refine ⟨_, rfl, ?_⟩ | refine ⟨_, _, _, _, rfl, rfl, by walk_at "Zt", by rfl, ?_⟩ | refine ⟨_, _, rfl, rfl, ?_⟩)
local macro_rules | `(tactic| walk_at "Z1") => `(tactic| first | walk_at "Zn" | walk_at "Zp" | walk_at "Zc" | refine iteF ?_ | refine iteT ?_)
local macro_rules | `(tactic| walk_at "Z") => `(tactic| repeat walk_at "Z1")
section
variable {P : Program} {w : World} {K : PySem.W.Frag} {mg : Str → Option Value} {base : Heap} {ad : Adr} {c : Bool}
theorem c_limits_of (T : Txt K mg ad) : CalB P w K mg base true 5 "limits_of" ["bench"] (spLims K) := by
  have C_look_at := c_look_at (P := P) (w := w) (base := base) T
  have C_piece_of := c_piece_of (P := P) (w := w) (base := base) T
  refine T.t_limits_of.calN sc_limits_of (fun _ _ _ _ _ _ => by1 fun _ => rfl) (fun vs H Q E h => ?_) (fun f cdv A outer s H vs Q E hr h => ?_)
  · obtain ⟨_, _, _, rfl, _⟩ := h; rfl
  obtain ⟨b, ps, m, rfl, hb, g, hnm, q⟩ := h
  obtain ⟨a, xs, rfl, ha, hxs⟩ := DV.lst_of hb
  have hl : xs.length = ps.length := by have := hxs.len; rw [List.length_map] at this; exact this
  have gl := g.len
  refine ⟨_, (pss_cons (ps_expr (pe_cB C_look_at (hr.mono (by decide)) pass01 (pa_name (pv 0) pa_nil))) (pss_cons (ps_set (i := 1) sc_limits_of.nd rfl (Or.inl rfl) (pe_lst pa_nil)) (pss_cons (ps_set (i := 2) sc_limits_of.nd rfl (Or.inl rfl) (pe_tup (pa_name (pe_glob (v := .ref ad.ONE) rfl T.ex.m_ONE rfl) (pa_name (pe_glob (v := .ref ad.NOUGHT) rfl T.ex.m_NOUGHT rfl) pa_nil)))) (pss_cons (ps_set (i := 3) sc_limits_of.nd rfl (Or.inl rfl) (pe_tup (pa_name (pe_glob (v := .ref ad.NOUGHT) rfl T.ex.m_NOUGHT rfl) (pa_name (pe_glob (v := .ref ad.ONE) rfl T.ex.m_ONE rfl) pa_nil)))) (pss_cons (ps_for PassesOwn.never rfl (pi_enum rfl T.enumerate (pa_name (pv 0) pa_nil)) (pg_tup (n := 2) rfl (pgs_cons (pg_name (i := 4) sc_limits_of.nd rfl (by first | exact Or.inl rfl | exact Or.inr rfl)) (pgs_cons (pg_name (i := 5) sc_limits_of.nd rfl (by first | exact Or.inl rfl | exact Or.inr rfl)) pgs_nil))) (pss_cons (ps_if (pt_cmpR op_eq (pe_ix ix_tup (pv 5) pe_int (fun _ _ => rfl)) (pe_glob (v := .str "stop") rfl T.ex.m_STOP ⟨_, rfl⟩) (nomark _)) (pss_one (ps_expr (pe_bm PySem.F.plainAttrs_list PySem.F.slot_list_append PySem.F.type_list_append mt_append (pv 1) (pa_tuple (pe_tup (pa_name (pv 4) (pa_sub (pe_ix ix_tup (pv 2) pe_int (fun _ _ => rfl)) (pa_sub (pe_ix ix_tup (pv 3) pe_int (fun _ _ => rfl)) (pa_sub (pe_ix ix_tup (pv 5) pe_int (fun _ _ => rfl)) (pa_sub (pe_ix ix_tup (pv 5) pe_int (fun _ _ => rfl)) pa_nil)))))) pa_nil)))) pss_nil) (pss_cons (ps_set (i := 6) sc_limits_of.nd rfl (Or.inl rfl) (pe_cB C_piece_of (hr.mono (by decide)) pass01 (pa_name (pv 5) pa_nil))) (pss_cons (ps_set (i := 2) sc_limits_of.nd rfl (Or.inl rfl) (pe_mB (k := 4) (pv 6) (hr.mono (by decide)) (pa_name (pv 2) pa_nil))) (pss_one (ps_set (i := 3) sc_limits_of.nd rfl (Or.inl rfl) (pe_mB (k := 4) (pv 6) (hr.mono (by decide)) (pa_name (pv 3) pa_nil)))))))) (pss_one (ps_ret (pv 1)))))))), ?_⟩
  refine ⟨_, rfl, _, ps, m, rfl, hb, g, by omega, fun H1 s1 => ?_⟩
  refine ⟨(by show 0 ≤ sizeLine; decide), fun l hl1 => ?_⟩
  have nl : H l = none := s1.free hl1
  have u0 := same_new hl1 (.lst [])
  have hl0 : upd H1 l (.lst []) l = some (.lst []) := upd_same
  generalize upd H1 l (.lst []) = H1' at u0 hl0 ⊢
  refine ⟨(by show 2 ≤ sizeLine; decide), fun p1 hp1 => ?_⟩
  have u1 := same_new hp1 (.tup [.ref ad.ONE, .ref ad.NOUGHT])
  have d1 : DV K (upd H1' p1 (.tup [.ref ad.ONE, .ref ad.NOUGHT])) (.ref p1) (rayD e1) := DV.upd2 hp1 (dO T _) (dN T _)
  refine ⟨(by show 2 ≤ sizeLine; decide), fun p2 hp2 => ?_⟩
  have u2 := same_new hp2 (.tup [.ref ad.NOUGHT, .ref ad.ONE])
  have d2 : DV K (upd (upd H1' p1 (.tup [.ref ad.ONE, .ref ad.NOUGHT])) p2 (.tup [.ref ad.NOUGHT, .ref ad.ONE])) (.ref p2) (rayD e2) := DV.upd2 hp2 (dN T _) (dO T _)
  have s2 := s1.trans (u0.trans (u1.trans u2))
  refine ⟨_, rfl, a, rfl, ⟨_, ha.keep s2⟩, ?_⟩
  refine for_enum (K := K) (a := a) (xs := xs) (fun i σ H' => ∃ c4 c5 c6 v1 v2 vs, σ = [some (.ref a), some (.ref l), some v1, some v2, c4, c5, c6] ∧ Same H H' ∧ H' l = some (.lst vs) ∧ DVs K H' vs ((lims (ps.take i)).map limD) ∧ DV K H' v1 (rayD (bend (ps.take i) e1)) ∧ DV K H' v2 (rayD (bend (ps.take i) e2)) ∧ RB (2 + i * (m + 1)) (bend (ps.take i) e1) ∧ RB (2 + i * (m + 1)) (bend (ps.take i) e2)) ⟨_, _, _, _, _, [], rfl, s2, (u1.trans u2) _ _ hl0, .nil, d1.keep u2, d2, by simpa [bend] using rb_e1, by simpa [bend] using rb_e2⟩ ?_ ?_ ?_
  · rintro i σ H' hi ⟨c4, c5, c6, v1, v2, vs, rfl, s3, _⟩
    exact ha.keep s3
  · rintro i x σ H' p hi ⟨c4, c5, c6, v1, v2, vs, rfl, s3, hlv, hvs, hv1, hv2, b1, b2⟩ hp
    obtain ⟨d, hd, hx⟩ := hxs.get hi
    obtain ⟨pc, hpc, rfl⟩ := get_map_pc hd
    have hmem := List.mem_of_getElem? hpc
    have hi' := lt_of_get hpc
    have bi := bi_le hnm hi'
    have up := same_new hp (.tup [.int i, x])
    have hx4 := hx.keep (s3.trans up)
    refine ⟨p, _, rfl, SqT.of upd_same, rfl, _, _, rfl, _, _, rfl, rfl, ?_⟩
    have et := bend_take hpc
    have el := lims_take hpc
    have vl : vs.length ≤ 60 := by
      have h1 := hvs.len
      rw [List.length_map] at h1
      have h2 := lims_len (ps.take i) 0 e1 e2
      rw [List.length_take] at h2
      unfold lims at h1
      omega
    -- what comes behind the list
    have fin : ∀ (vs' : List V) (H5 : Hp), Same H H5 → H5 l = some (.lst vs') → DVs K H5 vs' ((lims (ps.take (i + 1))).map limD) → DV K H5 v1 (rayD (bend (ps.take i) e1)) → DV K H5 v2 (rayD (bend (ps.take i) e2)) → DV K H5 x (pcD pc) → ∀ (o : Addr) H6, Same H5 H6 → ObAt K ad.Gap ad.Glass ad.Stop H6 (.ref o) pc → ∀ w1 H7, Same H6 H7 → DV K H7 w1 (rayD (pc.bent (bend (ps.take i) e1))) → ∀ w2 H8, Same H7 H8 → DV K H8 w2 (rayD (pc.bent (bend (ps.take i) e2))) →
        ∃ c4 c5 c6 v1 v2 vs, ([some (.ref a), some (.ref l), some w1, some w2, some (.int (i : Int)), some x, some (.ref o)] : St) = [some (.ref a), some (.ref l), some v1, some v2, c4, c5, c6] ∧ Same H H8 ∧ H8 l = some (.lst vs) ∧ DVs K H8 vs ((lims (ps.take (i + 1))).map limD) ∧ DV K H8 v1 (rayD (bend (ps.take (i + 1)) e1)) ∧ DV K H8 v2 (rayD (bend (ps.take (i + 1)) e2)) ∧ RB (2 + (i + 1) * (m + 1)) (bend (ps.take (i + 1)) e1) ∧ RB (2 + (i + 1) * (m + 1)) (bend (ps.take (i + 1)) e2) := by
      intro vs' H5 s5 hl5 hvs5 _ _ _ o H6 s6 _ w1 H7 s7 hw1 w2 H8 s8 hw2
      refine ⟨_, _, _, w1, w2, vs', rfl, s5.trans (s6.trans (s7.trans s8)), (s6.trans (s7.trans s8)) _ _ hl5, hvs5.keep (s6.trans (s7.trans s8)), ?_, ?_, ?_, ?_⟩
      · rw [et]; exact hw1.keep s8
      · rw [et]; exact hw2
      · rw [et]; exact Rb.mono (bent_rb (g.bd _ hmem) b1) (by rw [Nat.add_mul]; omega)
      · rw [et]; exact Rb.mono (bent_rb (g.bd _ hmem) b2) (by rw [Nat.add_mul]; omega)
    cases pc with
    | gap e =>
      obtain ⟨pa, z, z1, rfl, hpa, hz, hz1⟩ := DV.t2 hx4
      obtain rfl := hz.str_of
      refine ⟨_, rfl, pa, _, _, _, rfl, rfl, hpa, rfl, rfl, _, rfl, iteF' (by decide) ?_⟩
      refine ⟨_, rfl, _, .gap e, rfl, hx4, fun o H5 s5 ho => ?_⟩
      obtain ⟨oa, C, dx, fs, pps, sp, q1, q2, q3, M, hsp⟩ := ob_bent (P := P) (w := w) (base := base) T ho (hv1.keep (up.trans s5)) b1 (g.bd _ hmem) bi
      refine ⟨_, rfl, oa, C, dx, fs, pps, sp, q1, q2, q3, M, _, rfl, hsp _ (fun w1 H6 s6 hw1 => ?_)⟩
      obtain ⟨oa, C, dx, fs, pps, sp, q1, q2, q3, M, hsp⟩ := ob_bent (P := P) (w := w) (base := base) T (ho.keep s6) (hv2.keep (up.trans (s5.trans s6))) b2 (g.bd _ hmem) bi
      refine ⟨_, rfl, oa, C, dx, fs, pps, sp, q1, q2, q3, M, _, rfl, hsp _ (fun w2 H7 s7 hw2 => ?_)⟩
      exact fin vs _ (s3.trans up) (up _ _ hlv) (by rw [el]; show DVs K _ vs ((lims (ps.take i) ++ []).map limD); rw [List.append_nil]; exact hvs.keep up) (hv1.keep up) (hv2.keep up) hx4 o H5 s5 ho w1 H6 s6 hw1 w2 H7 s7 hw2
    | glass e =>
      obtain ⟨pa, z, z1, rfl, hpa, hz, hz1⟩ := DV.t2 hx4
      obtain rfl := hz.str_of
      refine ⟨_, rfl, pa, _, _, _, rfl, rfl, hpa, rfl, rfl, _, rfl, iteF' (by decide) ?_⟩
      refine ⟨_, rfl, _, .glass e, rfl, hx4, fun o H5 s5 ho => ?_⟩
      obtain ⟨oa, C, dx, fs, pps, sp, q1, q2, q3, M, hsp⟩ := ob_bent (P := P) (w := w) (base := base) T ho (hv1.keep (up.trans s5)) b1 (g.bd _ hmem) bi
      refine ⟨_, rfl, oa, C, dx, fs, pps, sp, q1, q2, q3, M, _, rfl, hsp _ (fun w1 H6 s6 hw1 => ?_)⟩
      obtain ⟨oa, C, dx, fs, pps, sp, q1, q2, q3, M, hsp⟩ := ob_bent (P := P) (w := w) (base := base) T (ho.keep s6) (hv2.keep (up.trans (s5.trans s6))) b2 (g.bd _ hmem) bi
      refine ⟨_, rfl, oa, C, dx, fs, pps, sp, q1, q2, q3, M, _, rfl, hsp _ (fun w2 H7 s7 hw2 => ?_)⟩
      exact fin vs _ (s3.trans up) (up _ _ hlv) (by rw [el]; show DVs K _ vs ((lims (ps.take i) ++ []).map limD); rw [List.append_nil]; exact hvs.keep up) (hv1.keep up) (hv2.keep up) hx4 o H5 s5 ho w1 H6 s6 hw1 w2 H7 s7 hw2
    | stop lo hi2 =>
      obtain ⟨pa, z, z1, z2, rfl, hpa, hz, hz1, hz2⟩ := DV.t3 hx4
      obtain rfl := hz.str_of
      have hlp := up _ _ hlv
      have k1 := hv1.keep up
      have k2 := hv2.keep up
      have hvsp := hvs.keep up
      have sp0 := s3.trans up
      generalize upd H' p (.tup [.int i, .ref pa]) = H4 at hpa hz hz1 hz2 hx4 hlp k1 k2 hvsp sp0 ⊢
      obtain ⟨ra, r1, r2, rfl, hra, hr1, hr2⟩ := DV.t2 k1
      obtain ⟨ta, t1, t2, rfl, hta, ht1, ht2⟩ := DV.t2 k2
      refine ⟨_, rfl, pa, _, _, _, rfl, rfl, hpa, rfl, rfl, _, rfl, iteT' (by decide) ?_⟩
      refine ⟨_, rfl, .inl ⟨rfl, _, SqL.of hlp⟩, ?_⟩
      refine ⟨_, rfl, _, rfl, ra, _, _, _, rfl, rfl, hra, rfl, _, rfl, ta, _, _, _, rfl, rfl, hta, rfl, _, rfl, pa, _, _, _, rfl, rfl, hpa, rfl, _, rfl, pa, _, _, _, rfl, rfl, hpa, rfl, (by show 5 ≤ sizeLine; decide), fun t5 ht5 => ?_⟩
      have d5 : DV K (upd H4 t5 (.tup [.int i, r1, t1, z1, z2])) (.ref t5) (limD ⟨i, (bend (ps.take i) e1).1, (bend (ps.take i) e2).1, lo, hi2⟩) := DV.upd5 ht5 (.int _) hr1 ht1 hz1 hz2
      have u5 := same_new ht5 (.tup [.int i, r1, t1, z1, z2])
      generalize upd H4 t5 (.tup [.int i, r1, t1, z1, z2]) = H5 at d5 u5 ⊢
      have hl5 := u5 _ _ hlp
      refine ⟨l, vs, _, rfl, rfl, hl5, small1000 (by omega), ?_⟩
      have uT := sameT_upd hl5 (.lst (vs ++ [.ref t5]))
      have sH : Same H (upd H5 l (.lst (vs ++ [.ref t5]))) := fun b o e => by
        rw [upd_ne (ne_of_none e nl)]
        exact (sp0.trans u5) _ _ e
      have hv6 : DVs K (upd H5 l (.lst (vs ++ [.ref t5]))) (vs ++ [.ref t5]) ((lims (ps.take (i + 1))).map limD) := by
        rw [el, List.map_append]
        exact dvs_keepT uT (by rw [← List.map_append]; exact noLs_map noL_lim _) ((hvsp.keep u5).append (.cons d5 .nil))
      have k16 : DV K (upd H5 l (.lst (vs ++ [.ref t5]))) (.ref ra) (rayD (bend (ps.take i) e1)) := dv_keepT uT (noL_ray _) (k1.keep u5)
      have k26 : DV K (upd H5 l (.lst (vs ++ [.ref t5]))) (.ref ta) (rayD (bend (ps.take i) e2)) := dv_keepT uT (noL_ray _) (k2.keep u5)
      have hx6 : DV K (upd H5 l (.lst (vs ++ [.ref t5]))) (.ref pa) (pcD (.stop lo hi2)) := dv_keepT uT (noL_pc _) (hx4.keep u5)
      have hl6 : upd H5 l (.lst (vs ++ [.ref t5])) l = some (.lst (vs ++ [.ref t5])) := upd_same
      generalize upd H5 l (.lst (vs ++ [.ref t5])) = H6 at sH hv6 k16 k26 hx6 hl6 ⊢
      refine ⟨_, rfl, _, .stop lo hi2, rfl, hx6, fun o H7 s7 ho => ?_⟩
      obtain ⟨oa, C, dx, fs, pps, sp, q1, q2, q3, M, hsp⟩ := ob_bent (P := P) (w := w) (base := base) T ho (k16.keep s7) b1 (g.bd _ hmem) bi
      refine ⟨_, rfl, oa, C, dx, fs, pps, sp, q1, q2, q3, M, _, rfl, hsp _ (fun w1 H8 s8 hw1 => ?_)⟩
      obtain ⟨oa, C, dx, fs, pps, sp, q1, q2, q3, M, hsp⟩ := ob_bent (P := P) (w := w) (base := base) T (ho.keep s8) (k26.keep (s7.trans s8)) b2 (g.bd _ hmem) bi
      refine ⟨_, rfl, oa, C, dx, fs, pps, sp, q1, q2, q3, M, _, rfl, hsp _ (fun w2 H9 s9 hw2 => ?_)⟩
      exact fin _ _ sH hl6 hv6 k16 k26 hx6 o H7 s7 ho w1 H8 s8 hw1 w2 H9 s9 hw2
  · rintro σ H' ⟨c4, c5, c6, v1, v2, vs, rfl, s3, hlv, hvs, _⟩
    rw [hl, List.take_length] at hvs
    exact ⟨_, rfl, q l vs _ s3 nl hlv hvs⟩
end
end K42
namespace K42
open PySem L2 Lib Fr Op
seal PE PT PW PA PS PSs PG PGs PI PO PIfs
local macro_rules | `(tactic| walk_at "Zs") => `(tactic| first | with_reducible assumption | with_reducible exact Same.refl _ | exact zs1 (by with_reducible assumption) (by walk_at "Zs") | exact zs2 (by with_reducible assumption) (by walk_at "Zs"))
local macro_rules | `(tactic| walk_at "Zd") => `(tactic| first | with_reducible assumption | with_reducible exact DV.int _ | with_reducible exact DV.str _ | with_reducible exact DV.bl _ | with_reducible exact DV.non | exact zd1 (by first | with_reducible assumption | assumption) (by walk_at "Zs") | with_reducible exact dN (by assumption) _ | with_reducible exact dO (by assumption) _ | exact zd2 (by with_reducible assumption) (by walk_at "Zs") (by walk_at "Zd") (by walk_at "Zd") | exact zd3 (by with_reducible assumption) (by walk_at "Zs") (by walk_at "Zd") (by walk_at "Zd") (by walk_at "Zd") | exact zd4 (by with_reducible assumption) (by walk_at "Zs") (by walk_at "Zd") (by walk_at "Zd") (by walk_at "Zd") (by walk_at "Zd"))
local macro_rules | `(tactic| walk_at "Zt") => `(tactic| first | assumption | exact zt1 (by assumption) (by walk_at "Zs") | exact zt2 (by walk_at "Zs"))
local macro_rules | `(tactic| walk_at "Zl") => `(tactic| first | assumption | exact zl1 (by assumption) (by walk_at "Zs") | exact zl2 (by walk_at "Zs"))
local macro_rules | `(tactic| walk_at "Zv") => `(tactic| first | exact DVs.nil | exact DVs.cons (by walk_at "Zd") (by walk_at "Zv"))
local macro_rules | `(tactic| walk_at "Zb") => `(tactic| first | with_reducible assumption | exact bd_zero 1 (by decide) | exact bd_one 1 (by decide) | with_reducible exact Bd.mul (by walk_at "Zb") (by walk_at "Zb") | with_reducible exact Bd.add (by walk_at "Zb") (by walk_at "Zb") | with_reducible exact Bd.sub (by walk_at "Zb") (by walk_at "Zb") | with_reducible exact Tb.a (by with_reducible assumption) | with_reducible exact Tb.b (by with_reducible assumption) | with_reducible exact Tb.c (by with_reducible assumption) | with_reducible exact Tb.d (by with_reducible assumption) | with_reducible exact Rb.y (by with_reducible assumption) | with_reducible exact Rb.u (by with_reducible assumption))
local macro_rules | `(tactic| walk_at "Zm") => `(tactic| first | with_reducible assumption | with_reducible exact Sm.zero | with_reducible exact Sm.one | exact Bd.sm (by walk_at "Zb") (by first | decide | omega))
local macro_rules | `(tactic| walk_at "Zr") => `(tactic| first | exact ⟨_, _, rfl, by walk_at "Zm", by walk_at "Zm", rfl⟩ | exact ⟨_, _, rfl, by walk_at "Zm", by walk_at "Zm", by assumption, rfl⟩)
local macro_rules | `(tactic| walk_at "Zc") => `(tactic| (refine ⟨_, _, by walk_at "Zv", by walk_at "Zr", fun v H' s hv => ?_⟩; (first | (obtain rfl := DV.bl_of hv) | (have := (show DV _ _ _ (frD _) from hv); clear this) | (obtain ⟨a, x1, x2, x3, x4, rfl, ha, h1, h2, h3, h4⟩ := DV.t4 hv) | (obtain ⟨a, x1, x2, x3, rfl, ha, h1, h2, h3⟩ := DV.t3 hv) | (obtain ⟨a, x1, x2, rfl, ha, h1, h2⟩ := DV.t2 hv) | skip)))
local macro_rules | `(tactic| walk_at "Zp") => `(tactic| first | refine ⟨by (show 2 ≤ sizeLine; decide), fun p hp => ?_⟩ | refine ⟨by (show 3 ≤ sizeLine; decide), fun p hp => ?_⟩ | refine ⟨by (show 4 ≤ sizeLine; decide), fun p hp => ?_⟩)
local macro_rules | `(tactic| walk_at "Zn") => `(tactic| first | refine ⟨_, rfl, ?_⟩ | refine ⟨_, _, _, _, rfl, rfl, by walk_at "Zt", by rfl, ?_⟩ | refine ⟨_, _, rfl, rfl, ?_⟩)
local macro_rules | `(tactic| walk_at "Z1") => `(tactic| first | walk_at "Zn" | walk_at "Zp" | walk_at "Zc" | refine iteF ?_ | refine iteT ?_)
local macro_rules | `(tactic| walk_at "Z") => `(tactic| repeat walk_at "Z1")
section
variable {P : Program} {w : World} {K : PySem.W.Frag} {mg : Str → Option Value} {base : Heap} {ad : Adr} {c : Bool}
theorem c_is_stretch (T : Txt K mg ad) : CalB P w K mg base true 3 "is_stretch" ["first", "last"] (PR K RStrch) := by
  have C_is_ratio := c_is_ratio (P := P) (w := w) (base := base) T
  have C_is_less := c_is_less (P := P) (w := w) (base := base) T
  refine T.t_is_stretch.calN sc_is_stretch (fun _ _ _ _ _ _ => by2 fun _ _ => rfl) (fun vs H Q E h => ?_) (fun f cdv A outer s H vs Q E hr h => ?_)
  · obtain ⟨_, _, dv, ⟨_, _, rfl, _⟩, _⟩ := h; exact dv.len
  obtain ⟨_, _, dv, ⟨p, q, rfl, sp, sq, ord, rfl⟩, k⟩ := h
  obtain ⟨x, y, rfl, hx, hy⟩ := dv.two
  refine ⟨_, (pss_one (ps_ret (pe_and (pe_cB C_is_ratio (hr.mono (by decide)) pass01 (pa_name (pv 0) pa_nil)) (pe_and (pe_cB C_is_ratio (hr.mono (by decide)) pass01 (pa_name (pv 1) pa_nil)) (pe_one (pe_not (pe_cB C_is_less (hr.mono (by decide)) pass01 (pa_name (pv 1) (pa_name (pv 0) pa_nil))))))))), ?_⟩
  refine ⟨_, rfl, _, _, rfl, hx, _, rfl, iteT ?_⟩
  refine ⟨_, rfl, _, _, rfl, hy, _, rfl, iteT ?_⟩
  refine ⟨_, rfl, _, rfl, _, _, .cons hy (.cons hx .nil), ⟨_, _, rfl, sq, sp, rfl⟩, fun b H1 s1 hb => ?_⟩
  obtain rfl := hb.bl_of
  rw [decide_eq_false (show ¬ q < p by grind)]
  exact ⟨_, rfl, k _ _ s1 (.bl _)⟩
theorem c_is_box (T : Txt K mg ad) : CalB P w K mg base true 4 "is_box" ["thing"] (PR K RIsBox) := by
  have C_is_stretch := c_is_stretch (P := P) (w := w) (base := base) T
  refine T.t_is_box.calN sc_is_box (fun _ _ _ _ _ _ => by1 fun _ => rfl) (fun vs H Q E h => ?_) (fun f cdv A outer s H vs Q E hr h => ?_)
  · obtain ⟨_, _, dv, ⟨_, _, rfl, _⟩, _⟩ := h; exact dv.len
  obtain ⟨_, _, dv, ⟨x, n, rfl, ok, bd, hn, rfl⟩, k⟩ := h
  obtain ⟨_, rfl, hx⟩ := dv.one
  obtain ⟨a, x1, x2, x3, x4, rfl, ha, h1, h2, h3, h4⟩ := DV.t4b hx
  refine ⟨_, (pss_cons (ps_if (PW.pt (pw_or (pt_not (pt_val (pe_callB call_isiD rfl T.isinstance bt_isinstance (pa_name (pv 0) (pa_name (pe_bltn (v := .ty "tuple") rfl T.tuple bt_tuple rfl) pa_nil))))) (pw_or1 (pt_cmpR op_ne (pe_callB call_len_seq rfl T.len bt_len (pa_name (pv 0) pa_nil)) pe_int (nomark _))))) (pss_one (ps_ret pe_bl)) pss_nil) (pss_one (ps_ret (pe_and (pe_cB C_is_stretch (hr.mono (by decide)) pass01 (pa_sub (pe_ix ix_tup (pv 0) pe_int (fun _ _ => rfl)) (pa_sub (pe_ix ix_tup (pv 0) pe_int (fun _ _ => rfl)) pa_nil))) (pe_one (pe_cB C_is_stretch (hr.mono (by decide)) pass01 (pa_sub (pe_ix ix_tup (pv 0) pe_int (fun _ _ => rfl)) (pa_sub (pe_ix ix_tup (pv 0) pe_int (fun _ _ => rfl)) pa_nil)))))))), ?_⟩
  refine ⟨_, rfl, _, _, _, _, rfl, hx, isTup_b _, _, rfl, iteF ?_⟩
  refine ⟨_, rfl, a, _, rfl, .inr ha, rfl, _, rfl, iteF ?_⟩
  refine ⟨_, rfl, a, _, _, _, rfl, rfl, ha, rfl, _, rfl, a, _, _, _, rfl, rfl, ha, rfl, _, _, .cons h1 (.cons h2 .nil), ⟨_, _, rfl, bd.a.sm hn, bd.b.sm hn, ok.h, rfl⟩, fun b H1 s1 hb => ?_⟩
  obtain rfl := hb.bl_of
  refine ⟨_, rfl, iteT ?_⟩
  have ha1 := ha.keep s1
  refine ⟨_, rfl, a, _, _, _, rfl, rfl, ha1, rfl, _, rfl, a, _, _, _, rfl, rfl, ha1, rfl, _, _, .cons (h3.keep s1) (.cons (h4.keep s1) .nil), ⟨_, _, rfl, bd.c.sm hn, bd.d.sm hn, ok.s, rfl⟩, fun b H2 s2 hb => ?_⟩
  exact k _ _ (s1.trans s2) hb
theorem c_look_at_box (T : Txt K mg ad) : CalB P w K mg base true 5 "look_at_box" ["box"] (PR K RLookBox) := by
  have C_is_box := c_is_box (P := P) (w := w) (base := base) T
  refine T.t_look_at_box.calN sc_look_at_box (fun _ _ _ _ _ _ => by1 fun _ => rfl) (fun vs H Q E h => ?_) (fun f cdv A outer s H vs Q E hr h => ?_)
  · obtain ⟨_, _, dv, ⟨_, _, rfl, _⟩, _⟩ := h; exact dv.len
  obtain ⟨_, _, dv, ⟨x, n, rfl, ok, bd, hn, rfl⟩, k⟩ := h
  obtain ⟨_, rfl, hx⟩ := dv.one
  refine ⟨_, (pss_one (ps_if (pt_not (pt_val (pe_cB C_is_box (hr.mono (by decide)) pass01 (pa_name (pv 0) pa_nil)))) (pss_one ps_never) pss_nil)), ?_⟩
  refine ⟨_, rfl, _, _, .cons hx .nil, ⟨_, _, rfl, ok, bd, hn, rfl⟩, fun b H1 s1 hb => ?_⟩
  obtain rfl := hb.bl_of
  exact ⟨_, rfl, iteF (k _ _ s1 .non)⟩
theorem c_corners_of (T : Txt K mg ad) : CalB P w K mg base true 2 "corners_of" ["box"] (PR K RCorn) := by
  refine T.t_corners_of.calN sc_corners_of (fun _ _ _ _ _ _ => by1 fun _ => rfl) (fun vs H Q E h => ?_) (fun f cdv A outer s H vs Q E hr h => ?_)
  · obtain ⟨_, _, dv, ⟨_, rfl, _⟩, _⟩ := h; exact dv.len
  obtain ⟨_, _, dv, ⟨x, rfl, rfl⟩, k⟩ := h
  obtain ⟨_, rfl, hx⟩ := dv.one
  obtain ⟨a, x1, x2, x3, x4, rfl, ha, h1, h2, h3, h4⟩ := DV.t4b hx
  refine ⟨_, (pss_cons (ps_set (i := 1) sc_corners_of.nd rfl (Or.inl rfl) (pe_lst pa_nil)) (pss_cons (ps_for PassesOwn.never rfl (pi_list (pe_lst (pa_tuple (pe_tup (pa_sub (pe_ix ix_tup (pv 0) pe_int (fun _ _ => rfl)) (pa_sub (pe_ix ix_tup (pv 0) pe_int (fun _ _ => rfl)) pa_nil))) (pa_tuple (pe_tup (pa_sub (pe_ix ix_tup (pv 0) pe_int (fun _ _ => rfl)) (pa_sub (pe_ix ix_tup (pv 0) pe_int (fun _ _ => rfl)) pa_nil))) (pa_tuple (pe_tup (pa_sub (pe_ix ix_tup (pv 0) pe_int (fun _ _ => rfl)) (pa_sub (pe_ix ix_tup (pv 0) pe_int (fun _ _ => rfl)) pa_nil))) (pa_tuple (pe_tup (pa_sub (pe_ix ix_tup (pv 0) pe_int (fun _ _ => rfl)) (pa_sub (pe_ix ix_tup (pv 0) pe_int (fun _ _ => rfl)) pa_nil))) pa_nil)))))) (pg_name (i := 2) sc_corners_of.nd rfl (by first | exact Or.inl rfl | exact Or.inr rfl)) (pss_one (ps_if (pt_cmpR (op_notInD hr.units) (pv 2) (pv 1) (by rfl)) (pss_one (ps_expr (pe_bm PySem.F.plainAttrs_list PySem.F.slot_list_append PySem.F.type_list_append mt_append (pv 1) (pa_name (pv 2) pa_nil)))) pss_nil))) (pss_one (ps_ret (pv 1))))), ?_⟩
  refine ⟨(by show 0 ≤ sizeLine; decide), fun l nl => ?_⟩
  have u0 := same_new nl (.lst [])
  have hl0 : upd H l (.lst []) l = some (.lst []) := upd_same
  generalize upd H l (.lst []) = H0 at u0 hl0 ⊢
  have a0 := ha.keep u0
  refine ⟨_, rfl, a, _, _, _, rfl, rfl, a0, rfl, _, rfl, a, _, _, _, rfl, rfl, a0, rfl, (by show 2 ≤ sizeLine; decide), fun p1 hp1 => ?_⟩
  have d1 : DV K (upd H0 p1 (.tup [x1, x3])) (.ref p1) (rayD (x.a, x.c)) := DV.upd2 hp1 (h1.keep u0) (h3.keep u0)
  have u1 := same_new hp1 (.tup [x1, x3])
  generalize upd H0 p1 (.tup [x1, x3]) = H1 at d1 u1 ⊢
  have t1 := u0.trans u1
  have a1 := ha.keep t1
  refine ⟨_, rfl, a, _, _, _, rfl, rfl, a1, rfl, _, rfl, a, _, _, _, rfl, rfl, a1, rfl, (by show 2 ≤ sizeLine; decide), fun p2 hp2 => ?_⟩
  have d2 : DV K (upd H1 p2 (.tup [x2, x3])) (.ref p2) (rayD (x.b, x.c)) := DV.upd2 hp2 (h2.keep t1) (h3.keep t1)
  have u2 := same_new hp2 (.tup [x2, x3])
  generalize upd H1 p2 (.tup [x2, x3]) = H2 at d2 u2 ⊢
  have t2 := t1.trans u2
  have a2 := ha.keep t2
  refine ⟨_, rfl, a, _, _, _, rfl, rfl, a2, rfl, _, rfl, a, _, _, _, rfl, rfl, a2, rfl, (by show 2 ≤ sizeLine; decide), fun p3 hp3 => ?_⟩
  have d3 : DV K (upd H2 p3 (.tup [x2, x4])) (.ref p3) (rayD (x.b, x.d)) := DV.upd2 hp3 (h2.keep t2) (h4.keep t2)
  have u3 := same_new hp3 (.tup [x2, x4])
  generalize upd H2 p3 (.tup [x2, x4]) = H3 at d3 u3 ⊢
  have t3 := t2.trans u3
  have a3 := ha.keep t3
  refine ⟨_, rfl, a, _, _, _, rfl, rfl, a3, rfl, _, rfl, a, _, _, _, rfl, rfl, a3, rfl, (by show 2 ≤ sizeLine; decide), fun p4 hp4 => ?_⟩
  have d4 : DV K (upd H3 p4 (.tup [x1, x4])) (.ref p4) (rayD (x.a, x.d)) := DV.upd2 hp4 (h1.keep t3) (h4.keep t3)
  have u4 := same_new hp4 (.tup [x1, x4])
  generalize upd H3 p4 (.tup [x1, x4]) = H4 at d4 u4 ⊢
  refine ⟨(by show 4 ≤ sizeLine; decide), fun p5 hp5 => ?_⟩
  have u5 := same_new hp5 (.lst [.ref p1, .ref p2, .ref p3, .ref p4])
  have hp51 : upd H4 p5 (.lst [.ref p1, .ref p2, .ref p3, .ref p4]) p5 = some (.lst [.ref p1, .ref p2, .ref p3, .ref p4]) := upd_same
  have hall : DVs K (upd H4 p5 (.lst [.ref p1, .ref p2, .ref p3, .ref p4])) [.ref p1, .ref p2, .ref p3, .ref p4] (x.four.map rayD) := .cons (d1.keep (u2.trans (u3.trans (u4.trans u5)))) (.cons (d2.keep (u3.trans (u4.trans u5))) (.cons (d3.keep (u4.trans u5)) (.cons (d4.keep u5) .nil)))
  have hl5 := (u1.trans (u2.trans (u3.trans (u4.trans u5)))) _ _ hl0
  have t5 := t3.trans (u4.trans u5)
  have np : p5 ≠ l := fun e => by rw [e, (u1.trans (u2.trans (u3.trans u4))) _ _ hl0] at hp5; cases hp5
  generalize upd H4 p5 (.lst [.ref p1, .ref p2, .ref p3, .ref p4]) = H5 at hp51 hall hl5 t5 ⊢
  clear u0 u1 u2 u3 u4 u5 t1 t2 t3 a0 a1 a2 a3 d1 d2 d3 d4
  refine ⟨p5, rfl, ⟨_, SqL.of hp51⟩, ?_⟩
  refine for_list (K := K) (a := p5) (xs := [.ref p1, .ref p2, .ref p3, .ref p4]) (fun i σ H' => ∃ c2 vs, σ = [some (.ref a), some (.ref l), c2] ∧ Same H H' ∧ H' p5 = some (.lst [.ref p1, .ref p2, .ref p3, .ref p4]) ∧ DVs K H' [.ref p1, .ref p2, .ref p3, .ref p4] (x.four.map rayD) ∧ H' l = some (.lst vs) ∧ DVs K H' vs ((dedI x.four i).map rayD)) ⟨_, [], rfl, t5, hp51, hall, hl5, .nil⟩ ?_ ?_ ?_
  · rintro i σ H' hi ⟨c2, vs, rfl, s3, hp, _⟩
    exact SqL.of hp
  · rintro i y σ H' hi ⟨c2, vs, rfl, s3, hp, hall, hlv, hvs⟩
    obtain ⟨d, hd, hy⟩ := hall.get hi
    obtain ⟨cr, hcr, rfl⟩ := get_map_ray hd
    have hle := dedI_le x.four i
    have hi4 : i < 4 := lt_of_get hi
    have vl : vs.length = (dedI x.four i).length := by have := hvs.len; rw [List.length_map] at this; exact this
    refine ⟨_, rfl, _, rfl, l, vs, _, _, rfl, SqL.of hlv, hy, hvs, rfl, (by show (rayD cr).depth ≤ 60; exact Nat.le_trans (flat_ray cr).d (by decide)), lay_rays _, _, rfl, ?_⟩
    rw [any_ray, mem_any]
    by_cases hm : cr ∈ dedI x.four i
    · refine iteF' (by rw [decide_eq_true hm]; rfl) ?_
      exact ⟨_, vs, rfl, s3, hp, hall, hlv, by rw [dedI_succ hcr, if_pos hm]; exact hvs⟩
    · refine iteT' (by rw [decide_eq_false hm]; rfl) ?_
      refine ⟨_, rfl, .inl ⟨rfl, _, SqL.of hlv⟩, ?_⟩
      refine ⟨_, rfl, l, vs, _, rfl, rfl, hlv, small1000 (by omega), ?_⟩
      have uT := sameT_upd hlv (.lst (vs ++ [y]))
      refine ⟨_, vs ++ [y], rfl, ?_, ?_, ?_, upd_same, ?_⟩
      · intro b o e
        rw [upd_ne (ne_of_none e nl)]
        exact s3 _ _ e
      · rw [upd_ne np]; exact hp
      · exact dvs_keepT uT (noLs_map noL_ray _) hall
      · rw [dedI_succ hcr, if_neg hm, List.map_append]
        exact dvs_keepT uT (by rw [← List.map_append]; exact noLs_map noL_ray _) (hvs.append (.cons hy .nil))
  · rintro σ H' ⟨c2, vs, rfl, s3, hp, hall, hlv, hvs⟩
    refine ⟨_, rfl, k _ _ s3 ?_⟩
    have e : boxC x = dedI x.four 4 := (dedI_len x.four).symm
    rw [e]
    exact .lst (SqL.of hlv) hvs
theorem c_edges_of (T : Txt K mg ad) : CalB P w K mg base true 4 "edges_of" ["limit"] (PR K REdges) := by
  have C_less_by := c_less_by (P := P) (w := w) (base := base) T
  refine T.t_edges_of.calN sc_edges_of (fun _ _ _ _ _ _ => by1 fun _ => rfl) (fun vs H Q E h => ?_) (fun f cdv A outer s H vs Q E hr h => ?_)
  · obtain ⟨_, _, dv, ⟨_, _, _, rfl, _⟩, _⟩ := h; exact dv.len
  obtain ⟨_, _, dv, ⟨l, n, M, rfl, lb, hn, hM, rfl⟩, k⟩ := h
  obtain ⟨_, rfl, hx⟩ := dv.one
  obtain ⟨a, x1, x2, x3, x4, rfl, ha, h1, h2, h3, h4⟩ := DV.t5 hx
  have z0 : Sm (0 : Rat) := (⟨by decide +kernel, by decide +kernel⟩ : Bd 1 (0 : Rat)).sm (by decide)
  refine ⟨_, (pss_cons (ps_set (i := 1) sc_edges_of.nd rfl (Or.inl rfl) (pe_ix ix_tup (pv 0) pe_int (fun _ _ => rfl))) (pss_cons (ps_set (i := 2) sc_edges_of.nd rfl (Or.inl rfl) (pe_ix ix_tup (pv 0) pe_int (fun _ _ => rfl))) (pss_cons (ps_set (i := 3) sc_edges_of.nd rfl (Or.inl rfl) (pe_tup (pa_name (pv 1) (pa_name (pv 2) (pa_call (pe_cB C_less_by (hr.mono (by decide)) pass01 (pa_name (pe_glob (v := .ref ad.NOUGHT) rfl T.ex.m_NOUGHT rfl) (pa_sub (pe_ix ix_tup (pv 0) pe_int (fun _ _ => rfl)) pa_nil))) pa_nil))))) (pss_cons (ps_set (i := 4) sc_edges_of.nd rfl (Or.inl rfl) (pe_tup (pa_call (pe_cB C_less_by (hr.mono (by decide)) pass01 (pa_name (pe_glob (v := .ref ad.NOUGHT) rfl T.ex.m_NOUGHT rfl) (pa_name (pv 1) pa_nil))) (pa_call (pe_cB C_less_by (hr.mono (by decide)) pass01 (pa_name (pe_glob (v := .ref ad.NOUGHT) rfl T.ex.m_NOUGHT rfl) (pa_name (pv 2) pa_nil))) (pa_sub (pe_ix ix_tup (pv 0) pe_int (fun _ _ => rfl)) pa_nil))))) (pss_one (ps_ret (pe_lst (pa_name (pv 3) (pa_name (pv 4) pa_nil))))))))), ?_⟩
  refine ⟨_, rfl, a, _, _, _, rfl, rfl, ha, rfl, _, rfl, a, _, _, _, rfl, rfl, ha, rfl, ?_⟩
  refine ⟨_, rfl, _, rfl, _, rfl, a, _, _, _, rfl, rfl, ha, rfl, _, _, .cons (dN T _) (.cons h3 .nil), ⟨0, _, rfl, z0, lb.lo.sm hM, rfl⟩, fun v1 H1 s1 hv1 => ?_⟩
  refine ⟨(by show 3 ≤ sizeLine; decide), fun p1 hp1 => ?_⟩
  have d1 : DV K (upd H1 p1 (.tup [x1, x2, v1])) (.ref p1) (edgD (upE l)) := DV.upd3 hp1 (h1.keep s1) (h2.keep s1) hv1
  have u1 := same_new hp1 (.tup [x1, x2, v1])
  generalize upd H1 p1 (.tup [x1, x2, v1]) = H2 at d1 u1 ⊢
  have t2 := s1.trans u1
  refine ⟨_, rfl, _, _, .cons (dN T _) (.cons (h1.keep t2) .nil), ⟨0, _, rfl, z0, lb.a.sm hn, rfl⟩, fun v2 H3 s3 hv2 => ?_⟩
  refine ⟨_, rfl, _, _, .cons (dN T _) (.cons (h2.keep (t2.trans s3)) .nil), ⟨0, _, rfl, z0, lb.b.sm hn, rfl⟩, fun v3 H4 s4 hv3 => ?_⟩
  have t4 := t2.trans (s3.trans s4)
  refine ⟨_, rfl, a, _, _, _, rfl, rfl, ha.keep t4, rfl, (by show 3 ≤ sizeLine; decide), fun p2 hp2 => ?_⟩
  have d2 : DV K (upd H4 p2 (.tup [v2, v3, x4])) (.ref p2) (edgD (dnE l)) := DV.upd3 hp2 (hv2.keep s4) hv3 (h4.keep t4)
  have u2 := same_new hp2 (.tup [v2, v3, x4])
  generalize upd H4 p2 (.tup [v2, v3, x4]) = H5 at d2 u2 ⊢
  refine ⟨_, rfl, _, rfl, (by show 2 ≤ sizeLine; decide), fun p3 hp3 => ?_⟩
  have u3 := same_new hp3 (.lst [.ref p1, .ref p2])
  refine k _ _ (t4.trans (u2.trans u3)) (.lst (SqL.of upd_same) (.cons (d1.keep (s3.trans (s4.trans (u2.trans u3)))) (.cons (d2.keep u3) .nil)))
theorem c_room_at (T : Txt K mg ad) : CalB P w K mg base true 4 "room_at" ["edge", "ray"] (PR K RRoom) := by
  have C_sum_of := c_sum_of (P := P) (w := w) (base := base) T
  have C_product_of := c_product_of (P := P) (w := w) (base := base) T
  refine T.t_room_at.calN sc_room_at (fun _ _ _ _ _ _ => by2 fun _ _ => rfl) (fun vs H Q E h => ?_) (fun f cdv A outer s H vs Q E hr h => ?_)
  · obtain ⟨_, _, dv, ⟨_, _, _, _, _, rfl, _⟩, _⟩ := h; exact dv.len
  obtain ⟨_, _, dv, ⟨e, r, n, M, c, rfl, eb, rb, hle, rfl⟩, k⟩ := h
  obtain ⟨_, _, rfl, hx, hy⟩ := dv.two
  obtain ⟨a, x1, x2, x3, rfl, ha, h1, h2, h3⟩ := DV.t3e hx
  obtain ⟨b, y1, y2, rfl, hb, g1, g2⟩ := DV.t2 hy
  refine ⟨_, (pss_one (ps_ret (pe_cB C_sum_of (hr.mono (by decide)) pass01 (pa_call (pe_cB C_sum_of (hr.mono (by decide)) pass01 (pa_call (pe_cB C_product_of (hr.mono (by decide)) pass01 (pa_sub (pe_ix ix_tup (pv 0) pe_int (fun _ _ => rfl)) (pa_sub (pe_ix ix_tup (pv 1) pe_int (fun _ _ => rfl)) pa_nil))) (pa_call (pe_cB C_product_of (hr.mono (by decide)) pass01 (pa_sub (pe_ix ix_tup (pv 0) pe_int (fun _ _ => rfl)) (pa_sub (pe_ix ix_tup (pv 1) pe_int (fun _ _ => rfl)) pa_nil))) pa_nil))) (pa_sub (pe_ix ix_tup (pv 0) pe_int (fun _ _ => rfl)) pa_nil))))), ?_⟩
  refine ⟨_, rfl, a, _, _, _, rfl, rfl, ha, rfl, _, rfl, b, _, _, _, rfl, rfl, hb, rfl, _, _, .cons h1 (.cons g1 .nil), ⟨_, _, rfl, eb.a.sm (by omega), rb.y.sm (by omega), rfl⟩, fun v1 H1 s1 hv1 => ?_⟩
  refine ⟨_, rfl, a, _, _, _, rfl, rfl, ha.keep s1, rfl, _, rfl, b, _, _, _, rfl, rfl, hb.keep s1, rfl, _, _, .cons (h2.keep s1) (.cons (g2.keep s1) .nil), ⟨_, _, rfl, eb.b.sm (by omega), rb.u.sm (by omega), rfl⟩, fun v2 H2 s2 hv2 => ?_⟩
  have e1 := eb.a.mul rb.y
  have e2 := eb.b.mul rb.u
  refine ⟨_, _, .cons (hv1.keep s2) (.cons hv2 .nil), ⟨_, _, rfl, e1.sm (by omega), e2.sm (by omega), rfl⟩, fun v3 H3 s3 hv3 => ?_⟩
  have t3 := s1.trans (s2.trans s3)
  refine ⟨_, rfl, a, _, _, _, rfl, rfl, ha.keep t3, rfl, _, _, .cons hv3 (.cons (h3.keep t3) .nil), ⟨_, _, rfl, (e1.add e2).sm (by omega), eb.c.sm (by omega), rfl⟩, fun v4 H4 s4 hv4 => ?_⟩
  exact k _ _ (t3.trans s4) hv4
theorem c_crossing_of (T : Txt K mg ad) : CalB P w K mg base true 4 "crossing_of" ["one", "other", "one_room", "other_room"] (PR K RCross) := by
  have C_sum_of := c_sum_of (P := P) (w := w) (base := base) T
  have C_product_of := c_product_of (P := P) (w := w) (base := base) T
  have C_less_by := c_less_by (P := P) (w := w) (base := base) T
  have C_quotient_of := c_quotient_of (P := P) (w := w) (base := base) T
  refine T.t_crossing_of.calN sc_crossing_of (fun _ _ _ _ _ _ => by4 fun _ _ _ _ => rfl) (fun vs H Q E h => ?_) (fun f cdv A outer s H vs Q E hr h => ?_)
  · obtain ⟨_, _, dv, ⟨_, _, _, _, _, _, rfl, _⟩, _⟩ := h; exact dv.len
  obtain ⟨_, _, dv, ⟨p, q, x, y, c, n, rfl, pb, qb, xb, yb, hne, hle, rfl⟩, k⟩ := h
  obtain ⟨_, _, rx, ry, rfl, hp, hq, hx, hy⟩ := dv.four
  obtain ⟨a, x1, x2, rfl, ha, h1, h2⟩ := DV.t2 hp
  obtain ⟨b, y1, y2, rfl, hb, g1, g2⟩ := DV.t2 hq
  refine ⟨_, (pss_cons (ps_set (i := 4) sc_crossing_of.nd rfl (Or.inl rfl) (pe_cB C_quotient_of (hr.mono (by decide)) pass01 (pa_name (pv 2) (pa_call (pe_cB C_less_by (hr.mono (by decide)) pass01 (pa_name (pv 2) (pa_name (pv 3) pa_nil))) pa_nil)))) (pss_cons (ps_set (i := 5) sc_crossing_of.nd rfl (Or.inl rfl) (pe_cB C_sum_of (hr.mono (by decide)) pass01 (pa_sub (pe_ix ix_tup (pv 0) pe_int (fun _ _ => rfl)) (pa_call (pe_cB C_product_of (hr.mono (by decide)) pass01 (pa_name (pv 4) (pa_call (pe_cB C_less_by (hr.mono (by decide)) pass01 (pa_sub (pe_ix ix_tup (pv 1) pe_int (fun _ _ => rfl)) (pa_sub (pe_ix ix_tup (pv 0) pe_int (fun _ _ => rfl)) pa_nil))) pa_nil))) pa_nil)))) (pss_cons (ps_set (i := 6) sc_crossing_of.nd rfl (Or.inl rfl) (pe_cB C_sum_of (hr.mono (by decide)) pass01 (pa_sub (pe_ix ix_tup (pv 0) pe_int (fun _ _ => rfl)) (pa_call (pe_cB C_product_of (hr.mono (by decide)) pass01 (pa_name (pv 4) (pa_call (pe_cB C_less_by (hr.mono (by decide)) pass01 (pa_sub (pe_ix ix_tup (pv 1) pe_int (fun _ _ => rfl)) (pa_sub (pe_ix ix_tup (pv 0) pe_int (fun _ _ => rfl)) pa_nil))) pa_nil))) pa_nil)))) (pss_one (ps_ret (pe_tup (pa_name (pv 5) (pa_name (pv 6) pa_nil)))))))), ?_⟩
  refine ⟨_, rfl, _, rfl, _, rfl, _, _, .cons hx (.cons hy .nil), ⟨_, _, rfl, xb.sm (by omega), yb.sm (by omega), rfl⟩, fun v1 H1 s1 hv1 => ?_⟩
  have e1 := xb.sub yb
  refine ⟨_, _, .cons (hx.keep s1) (.cons hv1 .nil), ⟨_, _, rfl, xb.sm (by omega), e1.sm (by omega), hne, rfl⟩, fun v2 H2 s2 hv2 => ?_⟩
  have e2 := xb.div e1 hne
  have t2 := s1.trans s2
  refine ⟨_, rfl, a, _, _, _, rfl, rfl, ha.keep t2, rfl, _, rfl, _, rfl, b, _, _, _, rfl, rfl, hb.keep t2, rfl, _, rfl, a, _, _, _, rfl, rfl, ha.keep t2, rfl, _, _, .cons (g1.keep t2) (.cons (h1.keep t2) .nil), ⟨_, _, rfl, qb.y.sm (by omega), pb.y.sm (by omega), rfl⟩, fun v3 H3 s3 hv3 => ?_⟩
  have e3 := qb.y.sub pb.y
  refine ⟨_, _, .cons (hv2.keep s3) (.cons hv3 .nil), ⟨_, _, rfl, e2.sm (by omega), e3.sm (by omega), rfl⟩, fun v4 H4 s4 hv4 => ?_⟩
  have t4 := t2.trans (s3.trans s4)
  refine ⟨_, _, .cons (h1.keep t4) (.cons hv4 .nil), ⟨_, _, rfl, pb.y.sm (by omega), (e2.mul e3).sm (by omega), rfl⟩, fun v5 H5 s5 hv5 => ?_⟩
  have t5 := t4.trans s5
  refine ⟨_, rfl, a, _, _, _, rfl, rfl, ha.keep t5, rfl, _, rfl, _, rfl, b, _, _, _, rfl, rfl, hb.keep t5, rfl, _, rfl, a, _, _, _, rfl, rfl, ha.keep t5, rfl, _, _, .cons (g2.keep t5) (.cons (h2.keep t5) .nil), ⟨_, _, rfl, qb.u.sm (by omega), pb.u.sm (by omega), rfl⟩, fun v6 H6 s6 hv6 => ?_⟩
  have e6 := qb.u.sub pb.u
  refine ⟨_, _, .cons (hv2.keep (s3.trans (s4.trans (s5.trans s6)))) (.cons hv6 .nil), ⟨_, _, rfl, e2.sm (by omega), e6.sm (by omega), rfl⟩, fun v7 H7 s7 hv7 => ?_⟩
  have t7 := t5.trans (s6.trans s7)
  refine ⟨_, _, .cons (h2.keep t7) (.cons hv7 .nil), ⟨_, _, rfl, pb.u.sm (by omega), (e2.mul e6).sm (by omega), rfl⟩, fun v8 H8 s8 hv8 => ?_⟩
  refine ⟨_, rfl, _, rfl, (by show 2 ≤ sizeLine; decide), fun p9 hp9 => ?_⟩
  exact k _ _ (t7.trans (s8.trans (same_new hp9 _))) (DV.upd2 hp9 (hv5.keep (s6.trans (s7.trans s8))) hv8)
end
end K42
namespace K42
open PySem L2 Lib Fr Op
seal PE PT PW PA PS PSs PG PGs PI PO PIfs
local macro_rules | `(tactic| walk_at "Zs") => `(tactic| first | with_reducible assumption | with_reducible exact Same.refl _ | exact zs1 (by with_reducible assumption) (by walk_at "Zs") | exact zs2 (by with_reducible assumption) (by walk_at "Zs"))
local macro_rules | `(tactic| walk_at "Zd") => `(tactic| first | with_reducible assumption | with_reducible exact DV.int _ | with_reducible exact DV.str _ | with_reducible exact DV.bl _ | with_reducible exact DV.non | exact zd1 (by first | with_reducible assumption | assumption) (by walk_at "Zs") | with_reducible exact dN (by assumption) _ | with_reducible exact dO (by assumption) _ | exact zd2 (by with_reducible assumption) (by walk_at "Zs") (by walk_at "Zd") (by walk_at "Zd") | exact zd3 (by with_reducible assumption) (by walk_at "Zs") (by walk_at "Zd") (by walk_at "Zd") (by walk_at "Zd") | exact zd4 (by with_reducible assumption) (by walk_at "Zs") (by walk_at "Zd") (by walk_at "Zd") (by walk_at "Zd") (by walk_at "Zd"))
local macro_rules | `(tactic| walk_at "Zt") => `(tactic| first | assumption | exact zt1 (by assumption) (by walk_at "Zs") | exact zt2 (by walk_at "Zs"))
local macro_rules | `(tactic| walk_at "Zl") => `(tactic| first | assumption | exact zl1 (by assumption) (by walk_at "Zs") | exact zl2 (by walk_at "Zs"))
local macro_rules | `(tactic| walk_at "Zv") => `(tactic| first | exact DVs.nil | exact DVs.cons (by walk_at "Zd") (by walk_at "Zv"))
local macro_rules | `(tactic| walk_at "Zb") => `(tactic| first | with_reducible assumption | exact bd_zero 1 (by decide) | exact bd_one 1 (by decide) | with_reducible exact Bd.mul (by walk_at "Zb") (by walk_at "Zb") | with_reducible exact Bd.add (by walk_at "Zb") (by walk_at "Zb") | with_reducible exact Bd.sub (by walk_at "Zb") (by walk_at "Zb") | with_reducible exact Tb.a (by with_reducible assumption) | with_reducible exact Tb.b (by with_reducible assumption) | with_reducible exact Tb.c (by with_reducible assumption) | with_reducible exact Tb.d (by with_reducible assumption) | with_reducible exact Rb.y (by with_reducible assumption) | with_reducible exact Rb.u (by with_reducible assumption))
local macro_rules | `(tactic| walk_at "Zm") => `(tactic| first | with_reducible assumption | with_reducible exact Sm.zero | with_reducible exact Sm.one | exact Bd.sm (by walk_at "Zb") (by first | decide | omega))
local macro_rules | `(tactic| walk_at "Zr") => `(tactic| first | exact ⟨_, _, rfl, by walk_at "Zm", by walk_at "Zm", rfl⟩ | exact ⟨_, _, rfl, by walk_at "Zm", by walk_at "Zm", by assumption, rfl⟩)
local macro_rules | `(tactic| walk_at "Zc") => `(tactic| (refine ⟨_, _, by walk_at "Zv", by walk_at "Zr", fun v H' s hv => ?_⟩; (first | (obtain rfl := DV.bl_of hv) | (have := (show DV _ _ _ (frD _) from hv); clear this) | (obtain ⟨a, x1, x2, x3, x4, rfl, ha, h1, h2, h3, h4⟩ := DV.t4 hv) | (obtain ⟨a, x1, x2, x3, rfl, ha, h1, h2, h3⟩ := DV.t3 hv) | (obtain ⟨a, x1, x2, rfl, ha, h1, h2⟩ := DV.t2 hv) | skip)))
local macro_rules | `(tactic| walk_at "Zp") => `(tactic| first | refine ⟨by (show 2 ≤ sizeLine; decide), fun p hp => ?_⟩ | refine ⟨by (show 3 ≤ sizeLine; decide), fun p hp => ?_⟩ | refine ⟨by (show 4 ≤ sizeLine; decide), fun p hp => ?_⟩)
local macro_rules | `(tactic| walk_at "Zn") => `(tactic| first | refine ⟨_, rfl, ?_⟩ | refine ⟨_, _, _, _, rfl, rfl, by walk_at "Zt", by rfl, ?_⟩ | refine ⟨_, _, rfl, rfl, ?_⟩)
local macro_rules | `(tactic| walk_at "Z1") => `(tactic| first | walk_at "Zn" | walk_at "Zp" | walk_at "Zc" | refine iteF ?_ | refine iteT ?_)
local macro_rules | `(tactic| walk_at "Z") => `(tactic| repeat walk_at "Z1")
section
variable {P : Program} {w : World} {K : PySem.W.Frag} {mg : Str → Option Value} {base : Heap} {ad : Adr} {c : Bool}
theorem c_is_before (T : Txt K mg ad) : CalB P w K mg base true 2 "is_before" ["one", "other"] (PR K RBef) := by
  have C_is_less := c_is_less (P := P) (w := w) (base := base) T
  refine T.t_is_before.calN sc_is_before (fun _ _ _ _ _ _ => by2 fun _ _ => rfl) (fun vs H Q E h => ?_) (fun f cdv A outer s H vs Q E hr h => ?_)
  · obtain ⟨_, _, dv, ⟨_, _, _, rfl, _⟩, _⟩ := h; exact dv.len
  obtain ⟨_, _, dv, ⟨r1, r2, n, rfl, b1, b2, hn, rfl⟩, k⟩ := h
  obtain ⟨_, _, rfl, hx, hy⟩ := dv.two
  obtain ⟨a, x1, x2, rfl, ha, hx1, hx2⟩ := DV.t2 hx
  obtain ⟨b, y1, y2, rfl, hb, hy1, hy2⟩ := DV.t2 hy
  refine ⟨_, (pss_cons (ps_if (pt_cmpR (op_neD hr.units) (pe_ix ix_tup (pv 0) pe_int (fun _ _ => rfl)) (pe_ix ix_tup (pv 1) pe_int (fun _ _ => rfl)) (nomark _)) (pss_one (ps_ret (pe_cB C_is_less (hr.mono (by decide)) pass01 (pa_sub (pe_ix ix_tup (pv 0) pe_int (fun _ _ => rfl)) (pa_sub (pe_ix ix_tup (pv 1) pe_int (fun _ _ => rfl)) pa_nil))))) pss_nil) (pss_one (ps_ret (pe_cB C_is_less (hr.mono (by decide)) pass01 (pa_sub (pe_ix ix_tup (pv 0) pe_int (fun _ _ => rfl)) (pa_sub (pe_ix ix_tup (pv 1) pe_int (fun _ _ => rfl)) pa_nil)))))), ?_⟩
  refine ⟨_, rfl, a, _, _, _, rfl, rfl, ha, rfl, _, rfl, b, _, _, _, rfl, rfl, hb, rfl, ne_frD hx1 hy1 ⟨_, rfl, ?_⟩⟩
  by_cases e : r1.1 = r2.1
  · refine iteF' (by rw [decide_eq_true e]; rfl) ?_
    refine ⟨_, rfl, a, _, _, _, rfl, rfl, ha, rfl, _, rfl, b, _, _, _, rfl, rfl, hb, rfl, _, _, .cons hx2 (.cons hy2 .nil), ⟨_, _, rfl, b1.u.sm hn, b2.u.sm hn, rfl⟩, fun v H1 s1 hv => ?_⟩
    refine k _ _ s1 ?_
    have e2 : befR r1 r2 = decide (r1.2 < r2.2) := by unfold befR; rw [if_pos e]
    rw [e2]
    exact hv
  · refine iteT' (by rw [decide_eq_false e]; rfl) ?_
    refine ⟨_, rfl, a, _, _, _, rfl, rfl, ha, rfl, _, rfl, b, _, _, _, rfl, rfl, hb, rfl, _, _, .cons hx1 (.cons hy1 .nil), ⟨_, _, rfl, b1.y.sm hn, b2.y.sm hn, rfl⟩, fun v H1 s1 hv => ?_⟩
    refine k _ _ s1 ?_
    have e2 : befR r1 r2 = decide (r1.1 < r2.1) := by unfold befR; rw [if_neg e]
    rw [e2]
    exact hv
theorem c_cut_by (T : Txt K mg ad) : CalB P w K mg base true 5 "cut_by" ["edge", "corners"] (PR K RCut) := by
  have C_room_at := c_room_at (P := P) (w := w) (base := base) T
  have C_crossing_of := c_crossing_of (P := P) (w := w) (base := base) T
  refine T.t_cut_by.calN sc_cut_by (fun _ _ _ _ _ _ => by2 fun _ _ => rfl) (fun vs H Q E h => ?_) (fun f cdv A outer s H vs Q E hr h => ?_)
  · obtain ⟨_, _, dv, ⟨_, _, _, _, _, rfl, _⟩, _⟩ := h; exact dv.len
  obtain ⟨_, _, dv, ⟨e, ps, n, M, c, rfl, eb, pb, hle, hps, rfl⟩, k⟩ := h
  obtain ⟨ev, _, rfl, he, hx⟩ := dv.two
  obtain ⟨a, xs, rfl, ha, hxs⟩ := DV.lst_of hx
  have hl : xs.length = ps.length := by have := hxs.len; rw [List.length_map] at this; exact this
  refine ⟨_, (pss_cons (ps_compX (i := 2) sc_cut_by.nd rfl (by first | exact Or.inl rfl | exact Or.inr rfl) ["corner", "edge"] [none, some 0] rfl (pi_list (pv 1)) (fun _ _ _ _ _ _ => (pg_name (i := 0) (show List.Nodup [("corner" : Str), ("edge" : Str)] by decide) rfl (by first | exact Or.inl rfl | exact Or.inr rfl))) (fun _ _ _ _ _ _ => pifs_nil) (fun _ _ _ _ _ _ => (pe_cB C_room_at (hr.mono (by decide)) pass01 (pa_name (pv 1) (pa_name (pv 0) pa_nil)))) (cap_def (hcell := by decide) (hf := (show ∀ y : Str × NameKind, y ∈ _ → y.2 = NameKind.free → (defScope s_cut_by).names.lookup y.1 = some NameKind.cell by decide))) (by decide) rfl (by decide) rfl (fun i j h => by
      rcases i with _ | _ | i
      · simp at h
      · simp at h; subst h; exact ⟨_, rfl, rfl, rfl, rfl⟩
      · simp at h)) (pss_cons (ps_set (i := 3) sc_cut_by.nd rfl (Or.inl rfl) (pe_lst pa_nil)) (pss_cons (ps_for PassesOwn.never rfl (pi_enum rfl T.enumerate (pa_name (pv 1) pa_nil)) (pg_tup (n := 2) rfl (pgs_cons (pg_name (i := 4) sc_cut_by.nd rfl (by first | exact Or.inl rfl | exact Or.inr rfl)) (pgs_cons (pg_name (i := 5) sc_cut_by.nd rfl (by first | exact Or.inl rfl | exact Or.inr rfl)) pgs_nil))) (pss_cons (ps_set (i := 6) sc_cut_by.nd rfl (Or.inl rfl) (pe_op op_sub (pv 4) pe_int)) (pss_cons (ps_if (pt_cmpR op_lt (pe_op op_mulW (pe_ix ix_tup (pe_ix ix_list (pv 2) (pv 6) (fun _ _ => rfl)) pe_int (fun _ _ => rfl)) (pe_ix ix_tup (pe_ix ix_list (pv 2) (pv 4) (fun _ _ => rfl)) pe_int (fun _ _ => rfl))) pe_int (nomark _)) (pss_cons (ps_set (i := 7) sc_cut_by.nd rfl (Or.inl rfl) (pe_cB C_crossing_of (hr.mono (by decide)) pass01 (pa_sub (pe_ix ix_list (pv 1) (pv 6) (fun _ _ => rfl)) (pa_name (pv 5) (pa_sub (pe_ix ix_list (pv 2) (pv 6) (fun _ _ => rfl)) (pa_sub (pe_ix ix_list (pv 2) (pv 4) (fun _ _ => rfl)) pa_nil)))))) (pss_one (ps_if (pt_cmpR (op_notInD hr.units) (pv 7) (pv 3) (by rfl)) (pss_one (ps_expr (pe_bm PySem.F.plainAttrs_list PySem.F.slot_list_append PySem.F.type_list_append mt_append (pv 3) (pa_name (pv 7) pa_nil)))) pss_nil))) pss_nil) (pss_one (ps_if (pt_cmpR op_ge (pe_ix ix_tup (pe_ix ix_list (pv 2) (pv 4) (fun _ _ => rfl)) pe_int (fun _ _ => rfl)) pe_int (nomark _)) (pss_one (ps_expr (pe_bm PySem.F.plainAttrs_list PySem.F.slot_list_append PySem.F.type_list_append mt_append (pv 3) (pa_name (pv 5) pa_nil)))) pss_nil))))) (pss_one (ps_ret (pv 3)))))), ?_⟩
  refine ⟨_, rfl, a, rfl, ⟨_, ha⟩, ?_⟩
  refine comp_list0 (K := K) (a := a) (xs := xs) (fun i σ ys H' => ∃ c0, σ = [c0, some ev] ∧ Same H H' ∧ DVs K H' ys (((ps.take i).map (roomR e)).map frD)) ⟨_, rfl, Same.refl _, .nil⟩ ?_ ?_ ?_
  · rintro i σ ys H' hi ⟨c0, rfl, s1, hys⟩
    refine ⟨Nat.le_of_lt (small1000 ?_), ha.keep s1⟩
    have := hys.len
    rw [List.length_map, List.length_map, List.length_take] at this
    omega
  · rintro i x σ ys H' hi ⟨c0, rfl, s1, hys⟩
    obtain ⟨d, hd, hx⟩ := hxs.get hi
    obtain ⟨cr, hcr, rfl⟩ := get_map_ray hd
    have bc := pb _ (List.mem_of_getElem? hcr)
    refine ⟨_, rfl, _, rfl, _, _, .cons (he.keep s1) (.cons (hx.keep s1) .nil), ⟨_, _, n, M, c, rfl, eb, bc, by omega, rfl⟩, fun v H2 s2 hv => ?_⟩
    refine nx (lt_of_get hi) ⟨_, rfl, s1.trans s2, ?_⟩
    rw [List.take_add_one, hcr, List.map_append, List.map_append]
    exact (hys.keep s2).append (.cons hv .nil)
  rintro σ' rs H1 lr ⟨c0, rfl, s1, hrs⟩ nlr
  rw [hl, List.take_length] at hrs
  have u1 := same_new nlr (.lst rs)
  have hlr : upd H1 lr (.lst rs) lr = some (.lst rs) := upd_same
  have hrs1 := hrs.keep u1
  have s2 := s1.trans u1
  generalize upd H1 lr (.lst rs) = H2 at u1 hlr hrs1 s2 ⊢
  have hrl : rs.length = ps.length := by have := hrs.len; rw [List.length_map, List.length_map] at this; exact this
  refine ⟨(by show 0 ≤ sizeLine; decide), fun l nl => ?_⟩
  have u3 := same_new nl (.lst [])
  have hl0 : upd H2 l (.lst []) l = some (.lst []) := upd_same
  have hlr3 := u3 _ _ hlr
  have hrs3 := hrs1.keep u3
  have s3 := s2.trans u3
  have nlH : H l = none := s2.free nl
  have nel : lr ≠ l := fun e => by rw [e, nl] at hlr; cases hlr
  generalize upd H2 l (.lst []) = H3 at u3 hl0 hlr3 hrs3 s3 ⊢
  refine ⟨_, rfl, a, rfl, ⟨_, ha.keep s3⟩, ?_⟩
  refine for_enum (K := K) (a := a) (xs := xs) (fun i σ H' => ∃ c4 c5 c6 c7 vs, σ = [some ev, some (.ref a), some (.ref lr), some (.ref l), c4, c5, c6, c7] ∧ Same H H' ∧ H' lr = some (.lst rs) ∧ DVs K H' rs ((ps.map (roomR e)).map frD) ∧ H' l = some (.lst vs) ∧ DVs K H' vs ((cutI e ps i).map rayD)) ⟨_, _, _, _, [], rfl, s3, hlr3, hrs3, hl0, .nil⟩ ?_ ?_ ?_
  · rintro i σ H' hi ⟨c4, c5, c6, c7, vs, rfl, s4, _⟩
    exact ha.keep s4
  · rintro i x σ H' p hi ⟨c4, c5, c6, c7, vs, rfl, s4, hlr4, hrs4, hlv, hvs⟩ hp
    have hi' := lt_of_get hi
    have up := same_new hp (.tup [.int i, x])
    obtain ⟨v0, hv0, hd0⟩ := dvs_prev hxs (i := i) (by omega)
    obtain ⟨v1, hv1, hd1⟩ := dvs_ray hxs (i := i) (by omega)
    cases hi.symm.trans hv1
    have vl : vs.length ≤ 2 * i := by
      have h1 := hvs.len
      rw [List.length_map] at h1
      have h2 := cutI_le e ps i
      omega
    have m0 := pb _ (prevR_mem (cs := ps) (i := i) (by omega))
    have m1 := pb _ (atR_mem (cs := ps) (i := i) (by omega))
    refine ⟨p, _, rfl, SqT.of upd_same, rfl, _, _, rfl, _, _, rfl, rfl, ?_⟩
    have s5 := s4.trans up
    have hlr5 := up _ _ hlr4
    have hrs5 := hrs4.keep up
    have hlv5 := up _ _ hlv
    have hvs5 := hvs.keep up
    have hd0 := hd0.keep s5
    have hd1 := hd1.keep s5
    generalize upd H' p (.tup [.int i, x]) = H5 at s5 hlr5 hrs5 hlv5 hvs5 hd0 hd1 ⊢
    clear up hlr4 hrs4 hlv hvs s4
    obtain ⟨w0, hw0, hr0⟩ := dvs_rprev hrs5 (i := i) (by omega)
    obtain ⟨w1, hw1, hr1⟩ := dvs_room hrs5 (i := i) (by omega)
    obtain ⟨q0, rfl, hq0⟩ := fr_at hr0
    obtain ⟨q1, rfl, hq1⟩ := fr_at hr1
    have b0 : Bd (2 * (c + n) + M + 2) (roomR e (prevR ps i)) := (((eb.a.mul m0.y).add (eb.b.mul m0.u)).add eb.c).mono (by omega)
    have b1 : Bd (2 * (c + n) + M + 2) (roomR e (atR ps i)) := (((eb.a.mul m1.y).add (eb.b.mul m1.u)).add eb.c).mono (by omega)
    have sz : CMulW (roomR e (prevR ps i)).num (roomR e (atR ps i)).num := ⟨Nat.lt_of_lt_of_le b0.n (pow_le (by omega)), Nat.lt_of_lt_of_le b1.n (pow_le (by omega))⟩
    have ec := cutI_succ e (ps := ps) (i := i) (by omega)
    unfold stepC at ec
    dsimp only at ec
    refine ⟨_, rfl, _, _, rfl, rfl, ?_⟩
    refine ⟨_, rfl, _, rfl, lr, _, _, _, rfl, rfl, SqL.of hlr5, hw0, q0, _, _, _, rfl, rfl, hq0, atI0, _, rfl, _, rfl, lr, _, _, _, rfl, rfl, SqL.of hlr5, atI_nat hw1, q1, _, _, _, rfl, rfl, hq1, atI0, _, _, rfl, rfl, sz, _, _, rfl, rfl, _, rfl, ?_⟩
    by_cases hx : roomR e (prevR ps i) * roomR e (atR ps i) < 0
    · refine iteT' (decide_eq_true ((num_mul _ _).mpr hx)) ?_
      have hne : roomR e (prevR ps i) - roomR e (atR ps i) ≠ 0 := by rcases mulneg hx with z | z <;> grind
      refine ⟨_, rfl, _, rfl, a, _, _, v0, rfl, rfl, ha.keep s5, hv0, _, rfl, _, rfl, _, rfl, lr, _, _, _, rfl, rfl, SqL.of hlr5, hw0, _, rfl, _, rfl, lr, _, _, _, rfl, rfl, SqL.of hlr5, atI_nat hw1, _, _, .cons hd0 (.cons hd1 (.cons hr0 (.cons hr1 .nil))), ⟨_, _, _, _, c, _, rfl, m0, m1, b0, b1, hne, hle, rfl⟩, fun cv H6 s6 hcv => ?_⟩
      have hcv : DV K H6 cv (rayD (crossP e (prevR ps i) (atR ps i))) := hcv
      have hlv6 := s6 _ _ hlv5
      have hvs6 := hvs5.keep s6
      have hlr6 := s6 _ _ hlr5
      have hrs6 := hrs5.keep s6
      have hq16 := hq1.keep s6
      have hd16 := hd1.keep s6
      have s06 := s5.trans s6
      refine ⟨_, rfl, _, rfl, l, vs, _, _, rfl, SqL.of hlv6, hcv, hvs6, rfl, (by show (rayD _).depth ≤ 60; exact Nat.le_trans (flat_ray _).d (by decide)), lay_rays _, _, rfl, ?_⟩
      rw [any_ray, mem_any]
      by_cases hm : crossP e (prevR ps i) (atR ps i) ∈ cutI e ps i
      · refine iteF' (by rw [decide_eq_true hm]; rfl) ?_
        rw [if_neg (fun z => z.2 hm)] at ec
        clear hvs5 hlv5 hrs5 hlr5 hd0 hd1 hr0 hr1 hq0 hq1
        refine ⟨_, rfl, _, rfl, lr, _, _, _, rfl, rfl, SqL.of hlr6, atI_nat hw1, q1, _, _, _, rfl, rfl, hq16, atI0, _, _, rfl, rfl, _, rfl, ?_⟩
        by_cases hn : 0 ≤ roomR e (atR ps i)
        · refine iteT' (decide_eq_true ((num_nn _).mpr hn)) ?_
          rw [if_pos hn] at ec
          refine ⟨_, rfl, .inl ⟨rfl, _, SqL.of hlv6⟩, ?_⟩
          refine ⟨_, rfl, l, vs, _, rfl, rfl, hlv6, small1000 (by omega), ?_⟩
          have uT := sameT_upd hlv6 (.lst (vs ++ [x]))
          refine ⟨_, _, _, _, vs ++ [x], rfl, ?_, ?_, ?_, upd_same, ?_⟩
          · intro b o e
            rw [upd_ne (ne_of_none e nlH)]
            exact s06 _ _ e
          · rw [upd_ne nel]; exact hlr6
          · exact dvs_keepT uT (noLs_map noL_fr _) hrs6
          · rw [ec, List.map_append]
            exact dvs_keepT uT (by rw [← List.map_append]; exact noLs_map noL_ray _) (hvs6.append (.cons hd16 .nil))
        · refine iteF' (decide_eq_false (fun z => hn ((num_nn _).mp z))) ?_
          rw [if_neg hn, List.append_nil] at ec
          exact ⟨_, _, _, _, vs, rfl, s06, hlr6, hrs6, hlv6, by rw [ec]; exact hvs6⟩
      · refine iteT' (by rw [decide_eq_false hm]; rfl) ?_
        rw [if_pos ⟨hx, hm⟩] at ec
        refine ⟨_, rfl, .inl ⟨rfl, _, SqL.of hlv6⟩, ?_⟩
        refine ⟨_, rfl, l, vs, _, rfl, rfl, hlv6, small1000 (by omega), ?_⟩
        have uT := sameT_upd hlv6 (.lst (vs ++ [cv]))
        have s06 : Same H (upd H6 l (.lst (vs ++ [cv]))) := fun b o e => by
          rw [upd_ne (ne_of_none e nlH)]
          exact s06 _ _ e
        have hlr6 : upd H6 l (.lst (vs ++ [cv])) lr = some (.lst rs) := by rw [upd_ne nel]; exact hlr6
        have hrs6 : DVs K (upd H6 l (.lst (vs ++ [cv]))) rs ((ps.map (roomR e)).map frD) := dvs_keepT uT (noLs_map noL_fr _) hrs6
        have hvs6 : DVs K (upd H6 l (.lst (vs ++ [cv]))) (vs ++ [cv]) ((cutI e ps i ++ [crossP e (prevR ps i) (atR ps i)]).map rayD) := by
          rw [List.map_append]
          exact dvs_keepT uT (by rw [← List.map_append]; exact noLs_map noL_ray _) (hvs6.append (.cons hcv .nil))
        have hq16 : SqT K (upd H6 l (.lst (vs ++ [cv]))) q1 _ := sqT_keepT uT hq16
        have hd16 : DV K (upd H6 l (.lst (vs ++ [cv]))) x (rayD (atR ps i)) := dv_keepT uT (noL_ray _) hd16
        have hlv6 : upd H6 l (.lst (vs ++ [cv])) l = some (.lst (vs ++ [cv])) := upd_same
        have vl : (vs ++ [cv]).length ≤ 2 * i + 1 := by rw [List.length_append]; simp; omega
        clear uT hcv s6
        generalize upd H6 l (.lst (vs ++ [cv])) = H6 at s06 hlr6 hrs6 hvs6 hq16 hd16 hlv6 ⊢
        generalize vs ++ [cv] = vs at hvs6 hlv6 vl ⊢
        clear hvs5 hlv5 hrs5 hlr5 hd0 hd1 hr0 hr1 hq0 hq1
        refine ⟨_, rfl, _, rfl, lr, _, _, _, rfl, rfl, SqL.of hlr6, atI_nat hw1, q1, _, _, _, rfl, rfl, hq16, atI0, _, _, rfl, rfl, _, rfl, ?_⟩
        by_cases hn : 0 ≤ roomR e (atR ps i)
        · refine iteT' (decide_eq_true ((num_nn _).mpr hn)) ?_
          rw [if_pos hn] at ec
          refine ⟨_, rfl, .inl ⟨rfl, _, SqL.of hlv6⟩, ?_⟩
          refine ⟨_, rfl, l, vs, _, rfl, rfl, hlv6, small1000 (by omega), ?_⟩
          have uT := sameT_upd hlv6 (.lst (vs ++ [x]))
          refine ⟨_, _, _, _, vs ++ [x], rfl, ?_, ?_, ?_, upd_same, ?_⟩
          · intro b o e
            rw [upd_ne (ne_of_none e nlH)]
            exact s06 _ _ e
          · rw [upd_ne nel]; exact hlr6
          · exact dvs_keepT uT (noLs_map noL_fr _) hrs6
          · rw [ec, List.map_append]
            exact dvs_keepT uT (by rw [← List.map_append]; exact noLs_map noL_ray _) (hvs6.append (.cons hd16 .nil))
        · refine iteF' (decide_eq_false (fun z => hn ((num_nn _).mp z))) ?_
          rw [if_neg hn, List.append_nil] at ec
          exact ⟨_, _, _, _, vs, rfl, s06, hlr6, hrs6, hlv6, by rw [ec]; exact hvs6⟩
    · refine iteF' (decide_eq_false (fun z => hx ((num_mul _ _).mp z))) ?_
      rw [if_neg (fun z => hx z.1)] at ec
      have s06 := s5
      have hlr6 := hlr5
      have hrs6 := hrs5
      have hvs6 := hvs5
      have hlv6 := hlv5
      have hq16 := hq1
      have hd16 := hd1
      refine ⟨_, rfl, _, rfl, lr, _, _, _, rfl, rfl, SqL.of hlr6, atI_nat hw1, q1, _, _, _, rfl, rfl, hq16, atI0, _, _, rfl, rfl, _, rfl, ?_⟩
      by_cases hn : 0 ≤ roomR e (atR ps i)
      · refine iteT' (decide_eq_true ((num_nn _).mpr hn)) ?_
        rw [if_pos hn] at ec
        refine ⟨_, rfl, .inl ⟨rfl, _, SqL.of hlv6⟩, ?_⟩
        refine ⟨_, rfl, l, vs, _, rfl, rfl, hlv6, small1000 (by omega), ?_⟩
        have uT := sameT_upd hlv6 (.lst (vs ++ [x]))
        refine ⟨_, _, _, _, vs ++ [x], rfl, ?_, ?_, ?_, upd_same, ?_⟩
        · intro b o e
          rw [upd_ne (ne_of_none e nlH)]
          exact s06 _ _ e
        · rw [upd_ne nel]; exact hlr6
        · exact dvs_keepT uT (noLs_map noL_fr _) hrs6
        · rw [ec, List.map_append]
          exact dvs_keepT uT (by rw [← List.map_append]; exact noLs_map noL_ray _) (hvs6.append (.cons hd16 .nil))
      · refine iteF' (decide_eq_false (fun z => hn ((num_nn _).mp z))) ?_
        rw [if_neg hn, List.append_nil] at ec
        exact ⟨_, _, _, _, vs, rfl, s06, hlr6, hrs6, hlv6, by rw [ec]; exact hvs6⟩
  · rintro σ H' ⟨c4, c5, c6, c7, vs, rfl, s4, hlr4, hrs4, hlv, hvs⟩
    rw [hl, cutI_len] at hvs
    exact ⟨_, rfl, k _ _ s4 (.lst (SqL.of hlv) hvs)⟩
end
end K42
namespace K42
open PySem L2 Lib Fr Op
seal PE PT PW PA PS PSs PG PGs PI PO PIfs
local macro_rules | `(tactic| walk_at "Zs") => `(tactic| first | with_reducible assumption | with_reducible exact Same.refl _ | exact zs1 (by with_reducible assumption) (by walk_at "Zs") | exact zs2 (by with_reducible assumption) (by walk_at "Zs"))
local macro_rules | `(tactic| walk_at "Zd") => `(tactic| first | with_reducible assumption | with_reducible exact DV.int _ | with_reducible exact DV.str _ | with_reducible exact DV.bl _ | with_reducible exact DV.non | exact zd1 (by first | with_reducible assumption | assumption) (by walk_at "Zs") | with_reducible exact dN (by assumption) _ | with_reducible exact dO (by assumption) _ | exact zd2 (by with_reducible assumption) (by walk_at "Zs") (by walk_at "Zd") (by walk_at "Zd") | exact zd3 (by with_reducible assumption) (by walk_at "Zs") (by walk_at "Zd") (by walk_at "Zd") (by walk_at "Zd") | exact zd4 (by with_reducible assumption) (by walk_at "Zs") (by walk_at "Zd") (by walk_at "Zd") (by walk_at "Zd") (by walk_at "Zd"))
local macro_rules | `(tactic| walk_at "Zt") => `(tactic| first | assumption | exact zt1 (by assumption) (by walk_at "Zs") | exact zt2 (by walk_at "Zs"))
local macro_rules | `(tactic| walk_at "Zl") => `(tactic| first | assumption | exact zl1 (by assumption) (by walk_at "Zs") | exact zl2 (by walk_at "Zs"))
local macro_rules | `(tactic| walk_at "Zv") => `(tactic| first | exact DVs.nil | exact DVs.cons (by walk_at "Zd") (by walk_at "Zv"))
local macro_rules | `(tactic| walk_at "Zb") => `(tactic| first | with_reducible assumption | exact bd_zero 1 (by decide) | exact bd_one 1 (by decide) | with_reducible exact Bd.mul (by walk_at "Zb") (by walk_at "Zb") | with_reducible exact Bd.add (by walk_at "Zb") (by walk_at "Zb") | with_reducible exact Bd.sub (by walk_at "Zb") (by walk_at "Zb") | with_reducible exact Tb.a (by with_reducible assumption) | with_reducible exact Tb.b (by with_reducible assumption) | with_reducible exact Tb.c (by with_reducible assumption) | with_reducible exact Tb.d (by with_reducible assumption) | with_reducible exact Rb.y (by with_reducible assumption) | with_reducible exact Rb.u (by with_reducible assumption))
local macro_rules | `(tactic| walk_at "Zm") => `(tactic| first | with_reducible assumption | with_reducible exact Sm.zero | with_reducible exact Sm.one | exact Bd.sm (by walk_at "Zb") (by first | decide | omega))
local macro_rules | `(tactic| walk_at "Zr") => `(tactic| first | exact ⟨_, _, rfl, by walk_at "Zm", by walk_at "Zm", rfl⟩ | exact ⟨_, _, rfl, by walk_at "Zm", by walk_at "Zm", by assumption, rfl⟩)
local macro_rules | `(tactic| walk_at "Zc") => `(tactic| (refine ⟨_, _, by walk_at "Zv", by walk_at "Zr", fun v H' s hv => ?_⟩; (first | (obtain rfl := DV.bl_of hv) | (have := (show DV _ _ _ (frD _) from hv); clear this) | (obtain ⟨a, x1, x2, x3, x4, rfl, ha, h1, h2, h3, h4⟩ := DV.t4 hv) | (obtain ⟨a, x1, x2, x3, rfl, ha, h1, h2, h3⟩ := DV.t3 hv) | (obtain ⟨a, x1, x2, rfl, ha, h1, h2⟩ := DV.t2 hv) | skip)))
local macro_rules | `(tactic| walk_at "Zp") => `(tactic| first | refine ⟨by (show 2 ≤ sizeLine; decide), fun p hp => ?_⟩ | refine ⟨by (show 3 ≤ sizeLine; decide), fun p hp => ?_⟩ | refine ⟨by (show 4 ≤ sizeLine; decide), fun p hp => ?_⟩)
local macro_rules | `(tactic| walk_at "Zn") => `(tactic| first | refine ⟨_, rfl, ?_⟩ | refine ⟨_, _, _, _, rfl, rfl, by walk_at "Zt", by rfl, ?_⟩ | refine ⟨_, _, rfl, rfl, ?_⟩)
local macro_rules | `(tactic| walk_at "Z1") => `(tactic| first | walk_at "Zn" | walk_at "Zp" | walk_at "Zc" | refine iteF ?_ | refine iteT ?_)
local macro_rules | `(tactic| walk_at "Z") => `(tactic| repeat walk_at "Z1")
section
variable {P : Program} {w : World} {K : PySem.W.Frag} {mg : Str → Option Value} {base : Heap} {ad : Adr} {c : Bool}
theorem c_from_the_least (T : Txt K mg ad) : CalB P w K mg base true 3 "from_the_least" ["corners"] (spFrom K) := by
  have C_is_before := c_is_before (P := P) (w := w) (base := base) T
  refine T.t_from_the_least.calN sc_from_the_least (fun _ _ _ _ _ _ => by1 fun _ => rfl) (fun vs H Q E h => ?_) (fun f cdv A outer s H vs Q E hr h => ?_)
  · obtain ⟨_, _, _, rfl, _⟩ := h; rfl
  obtain ⟨cv, cs, n, rfl, hx, bc, hn, hcs, q⟩ := h
  obtain ⟨a, xs, rfl, ha, hxs⟩ := DV.lst_of hx
  have hl : xs.length = cs.length := by have := hxs.len; rw [List.length_map] at this; exact this
  refine ⟨_, (pss_cons (ps_set (i := 1) sc_from_the_least.nd rfl (Or.inl rfl) pe_int) (pss_cons (ps_for PassesOwn.never rfl (pi_enum rfl T.enumerate (pa_name (pv 0) pa_nil)) (pg_tup (n := 2) rfl (pgs_cons (pg_name (i := 2) sc_from_the_least.nd rfl (by first | exact Or.inl rfl | exact Or.inr rfl)) (pgs_cons (pg_name (i := 3) sc_from_the_least.nd rfl (by first | exact Or.inl rfl | exact Or.inr rfl)) pgs_nil))) (pss_one (ps_if (pt_val (pe_cB C_is_before (hr.mono (by decide)) pass01 (pa_name (pv 3) (pa_sub (pe_ix ix_list (pv 0) (pv 1) (fun _ _ => rfl)) pa_nil)))) (pss_one (ps_set (i := 1) sc_from_the_least.nd rfl (Or.inl rfl) (pv 2))) pss_nil))) (pss_one (ps_ret (pe_op op_cat (pe_slice sl_list (pv 0) (po_some (pv 1)) po_none) (pe_slice sl_list (pv 0) po_none (po_some (pv 1)))))))), ?_⟩
  refine ⟨_, rfl, a, rfl, ⟨_, ha⟩, ?_⟩
  refine for_enum (K := K) (a := a) (xs := xs) (fun i σ H' => ∃ c2 c3, σ = [some (.ref a), some (.int (leastI cs i : Nat)), c2, c3] ∧ Same H H') ⟨_, _, rfl, Same.refl _⟩ ?_ ?_ ?_
  · rintro i σ H' hi ⟨c2, c3, rfl, s1⟩
    exact ha.keep s1
  · rintro i x σ H' p hi ⟨c2, c3, rfl, s1⟩ hp
    have hlt' := lt_of_get hi
    have s2 := s1.trans (same_new hp (.tup [.int i, x]))
    have hll : leastI cs i < cs.length := by
      cases i with
      | zero => show 0 < cs.length; omega
      | succ j => have := least_lt cs (j + 1) (by omega); omega
    obtain ⟨v0, hv0, hd0⟩ := dvs_ray hxs (i := leastI cs i) hll
    obtain ⟨v1, hv1, hd1⟩ := dvs_ray hxs (i := i) (by omega)
    cases hi.symm.trans hv1
    refine ⟨p, _, rfl, SqT.of upd_same, rfl, _, _, rfl, _, _, rfl, rfl, ?_⟩
    have m1 := bc _ (atR_mem (cs := cs) hll)
    have m2 := bc _ (atR_mem (cs := cs) (i := i) (by omega))
    refine ⟨_, rfl, _, rfl, _, rfl, a, _, _, v0, rfl, rfl, ha.keep s2, atI_nat hv0, _, _, .cons (hd1.keep s2) (.cons (hd0.keep s2) .nil), ⟨_, _, n, rfl, m2, m1, hn, rfl⟩, fun v H3 s3 hv => ?_⟩
    obtain rfl := hv.bl_of
    refine ⟨_, rfl, ?_⟩
    cases hb : befR (atR cs i) (atR cs (leastI cs i)) with
    | true =>
      refine iteT ⟨_, rfl, some (.int (i : Int)), some x, ?_, s2.trans s3⟩
      rw [leastI, if_pos hb]
      rfl
    | false =>
      refine iteF ⟨some (.int (i : Int)), some x, ?_, s2.trans s3⟩
      rw [leastI, if_neg (by rw [hb]; decide)]
      rfl
  · rintro σ H' ⟨c2, c3, rfl, s1⟩
    rw [hl]
    have ha1 := ha.keep s1
    refine ⟨_, rfl, _, rfl, _, rfl, a, xs, rfl, ha1, fun p1 hp1 => ?_⟩
    have u1 := same_new hp1 (.lst (cutV xs (some ((leastI cs cs.length : Nat) : Int)) none))
    have hp11 : upd H' p1 (.lst (cutV xs (some ((leastI cs cs.length : Nat) : Int)) none)) p1 = some (.lst (xs.drop (leastI cs cs.length))) := by rw [← cut_drop]; exact upd_same
    generalize upd H' p1 (.lst (cutV xs (some ((leastI cs cs.length : Nat) : Int)) none)) = H2 at u1 hp11 ⊢
    have ha2 := ha1.keep u1
    refine ⟨_, rfl, _, rfl, _, rfl, a, xs, rfl, ha2, fun p2 hp2 => ?_⟩
    have u2 := same_new hp2 (.lst (cutV xs none (some ((leastI cs cs.length : Nat) : Int))))
    have hp21 : upd H2 p2 (.lst (cutV xs none (some ((leastI cs cs.length : Nat) : Int)))) p2 = some (.lst (xs.take (leastI cs cs.length))) := by rw [← cut_take]; exact upd_same
    generalize upd H2 p2 (.lst (cutV xs none (some ((leastI cs cs.length : Nat) : Int)))) = H3 at u2 hp21 ⊢
    refine ⟨p1, p2, _, _, rfl, rfl, u2 _ _ hp11, hp21, ?_, fun p3 hp3 => ?_⟩
    · refine Nat.le_of_lt (small1000 ?_)
      rw [List.length_drop, List.length_take]
      omega
    have t3 := s1.trans (u1.trans (u2.trans (same_new hp3 (.lst (xs.drop (leastI cs cs.length) ++ xs.take (leastI cs cs.length))))))
    refine q p3 _ _ t3 ((s1.trans (u1.trans u2)).free hp3) upd_same ?_
    unfold rotL
    rw [List.map_append, List.map_drop, List.map_take]
    exact DVs.keep t3 ((DVs.drop _ hxs).append (DVs.take _ hxs))
theorem c_field_of (T : Txt K mg ad) : CalB P w K mg base true 6 "field_of" ["bench", "box"] (spField K) := by
  have C_limits_of := c_limits_of (P := P) (w := w) (base := base) T
  have C_look_at_box := c_look_at_box (P := P) (w := w) (base := base) T
  have C_corners_of := c_corners_of (P := P) (w := w) (base := base) T
  have C_edges_of := c_edges_of (P := P) (w := w) (base := base) T
  have C_cut_by := c_cut_by (P := P) (w := w) (base := base) T
  have C_from_the_least := c_from_the_least (P := P) (w := w) (base := base) T
  refine T.t_field_of.calN sc_field_of (fun _ _ _ _ _ _ => by2 fun _ _ => rfl) (fun vs H Q E h => ?_) (fun f cdv A outer s H vs Q E hr h => ?_)
  · obtain ⟨_, _, _, _, _, _, _, rfl, _⟩ := h; rfl
  obtain ⟨bv, xv, ps, x, m, n, M, rfl, hb, hx, g, hm, fo, hnM, q⟩ := h
  have hps := g.len
  have hll := lims_len ps 0 e1 e2
  have pol := fun i => Poly.all (n := n) (M := M) ((lims ps).take i) (box_poly fo.ok fo.bd fo.pos) (fun l hl => fo.lim l (List.mem_of_mem_take hl))
  have hle : ∀ i, ((lims ps).take i).length ≤ ps.length := fun i => Nat.le_trans (show ((lims ps).take i).length ≤ (lims ps).length by rw [List.length_take]; omega) hll
  refine ⟨_, (pss_cons (ps_set (i := 2) sc_field_of.nd rfl (Or.inl rfl) (pe_cB C_limits_of (hr.mono (by decide)) pass01 (pa_name (pv 0) pa_nil))) (pss_cons (ps_expr (pe_cB C_look_at_box (hr.mono (by decide)) pass01 (pa_name (pv 1) pa_nil))) (pss_cons (ps_set (i := 3) sc_field_of.nd rfl (Or.inl rfl) (pe_cB C_corners_of (hr.mono (by decide)) pass01 (pa_name (pv 1) pa_nil))) (pss_cons (ps_for PassesOwn.never rfl (pi_list (pv 2)) (pg_name (i := 4) sc_field_of.nd rfl (by first | exact Or.inl rfl | exact Or.inr rfl)) (pss_one (ps_for PassesOwn.never rfl (pi_list (pe_cB C_edges_of (hr.mono (by decide)) pass01 (pa_name (pv 4) pa_nil))) (pg_name (i := 5) sc_field_of.nd rfl (by first | exact Or.inl rfl | exact Or.inr rfl)) (pss_one (ps_set (i := 3) sc_field_of.nd rfl (Or.inl rfl) (pe_cB C_cut_by (hr.mono (by decide)) pass01 (pa_name (pv 5) (pa_name (pv 3) pa_nil)))))))) (pss_one (ps_ret (pe_cB C_from_the_least (hr.mono (by decide)) pass01 (pa_name (pv 3) pa_nil)))))))), ?_⟩
  refine ⟨_, rfl, bv, ps, m, rfl, hb, g, hm, fun l rs H1 s1 nl hl hrs => ?_⟩
  have hlen : rs.length = (lims ps).length := by have := hrs.len; rw [List.length_map] at this; exact this
  refine ⟨_, rfl, _, _, .cons (hx.keep s1) .nil, ⟨x, 2 * n + M, rfl, fo.ok, fo.bd, by omega, rfl⟩, fun v2 H2 s2 _ => ?_⟩
  refine ⟨_, rfl, _, _, .cons (hx.keep (s1.trans s2)) .nil, ⟨x, rfl, rfl⟩, fun cv H3 s3 hcv => ?_⟩
  have t3 := s1.trans (s2.trans s3)
  have hl3 := (s2.trans s3) _ _ hl
  have hrs3 := hrs.keep (s2.trans s3)
  refine ⟨_, rfl, l, rfl, ⟨_, SqL.of hl3⟩, ?_⟩
  refine for_list (K := K) (a := l) (xs := rs) (fun i σ H' => ∃ cv c4 c5, σ = [some bv, some xv, some (.ref l), some cv, c4, c5] ∧ Same H3 H' ∧ DV K H' cv (raysD (fieldF ((lims ps).take i) (boxC x)))) ⟨cv, _, _, rfl, Same.refl _, hcv⟩ ?_ ?_ ?_
  · rintro i σ H' hi ⟨cv, c4, c5, rfl, s4, _⟩
    exact SqL.of (s4 _ _ hl3)
  · rintro i y σ H' hi ⟨cv, c4, c5, rfl, s4, hcv⟩
    obtain ⟨d, hd, hy⟩ := hrs3.get hi
    obtain ⟨lm, hlm, rfl⟩ := get_map_lim hd
    have lb := fo.lim _ (List.mem_of_getElem? hlm)
    have pi := pol i
    have hli := hle i
    refine ⟨_, rfl, _, _, .cons (hy.keep s4) .nil, ⟨lm, n, M, rfl, lb, by omega, by omega, rfl⟩, fun ev H5 s5 hev => ?_⟩
    obtain ⟨le, es, rfl, hle5, hes⟩ := DV.lst_of hev
    obtain ⟨ea, eb, rfl, hea, heb⟩ := hes.two
    rw [fieldF_snoc hlm]
    generalize fieldF ((lims ps).take i) (boxC x) = cs at hcv pi ⊢
    refine ⟨le, rfl, ⟨_, hle5⟩, ?_⟩
    refine for_list (K := K) (a := le) (xs := [ea, eb]) (fun j σ H' => ∃ cv c4 c5, σ = [some bv, some xv, some (.ref l), some cv, c4, c5] ∧ Same H5 H' ∧ DV K H' cv (raysD (cutJ cs lm j))) ⟨cv, _, _, rfl, Same.refl _, hcv.keep s5⟩ ?_ ?_ ?_
    · rintro j σ H' hj ⟨cv, c4, c5, rfl, s6, _⟩
      exact hle5.keep s6
    · rintro j y σ H' hj ⟨cv, c4, c5, rfl, s6, hcv⟩
      match j, hj with
      | 0, hj =>
        cases hj
        have pn := pi.len
        refine ⟨_, rfl, _, rfl, _, _, .cons (hea.keep s6) (.cons hcv .nil), ⟨_, _, n, M, _, rfl, lb.up, pi.rn, by omega, by show cs.length ≤ 200; omega, rfl⟩, fun nv H7 s7 hnv => ?_⟩
        exact ⟨nv, _, _, rfl, s6.trans s7, hnv⟩
      | 1, hj =>
        cases hj
        have pj := pi.cut lb.up
        have pn := pj.len
        refine ⟨_, rfl, _, rfl, _, _, .cons (heb.keep s6) (.cons hcv .nil), ⟨_, _, n, M, _, rfl, lb.dn, pj.rn, by omega, by show (cutS (upE lm) cs).length ≤ 200; omega, rfl⟩, fun nv H7 s7 hnv => ?_⟩
        exact ⟨nv, _, _, rfl, s6.trans s7, hnv⟩
      | j + 2, hj => cases hj
    · rintro σ H' ⟨cv, c4, c5, rfl, s6, hcv⟩
      exact ⟨cv, _, _, rfl, s4.trans (s5.trans s6), hcv⟩
  · rintro σ H' ⟨cv, c4, c5, rfl, s4, hcv⟩
    have pe := pol rs.length
    have hle' := hle rs.length
    have pn := pe.len
    rw [hlen, List.take_length] at hcv pe pn
    refine ⟨_, rfl, cv, _, _, rfl, hcv, pe.rn, by omega, by rw [hlen, List.take_length] at hle'; omega, fun l2 rs2 H5 s5 nl2 hl2 hrs2 => ?_⟩
    have t5 := t3.trans s4
    exact q l2 rs2 H5 (t5.trans s5) (t5.free nl2) hl2 hrs2
end
end K42
namespace K42
open PySem L2 Lib Fr Op
seal PE PT PW PA PS PSs PG PGs PI PO PIfs
local macro_rules | `(tactic| walk_at "Zs") => `(tactic| first | with_reducible assumption | with_reducible exact Same.refl _ | exact zs1 (by with_reducible assumption) (by walk_at "Zs") | exact zs2 (by with_reducible assumption) (by walk_at "Zs"))
local macro_rules | `(tactic| walk_at "Zd") => `(tactic| first | with_reducible assumption | with_reducible exact DV.int _ | with_reducible exact DV.str _ | with_reducible exact DV.bl _ | with_reducible exact DV.non | exact zd1 (by first | with_reducible assumption | assumption) (by walk_at "Zs") | with_reducible exact dN (by assumption) _ | with_reducible exact dO (by assumption) _ | exact zd2 (by with_reducible assumption) (by walk_at "Zs") (by walk_at "Zd") (by walk_at "Zd") | exact zd3 (by with_reducible assumption) (by walk_at "Zs") (by walk_at "Zd") (by walk_at "Zd") (by walk_at "Zd") | exact zd4 (by with_reducible assumption) (by walk_at "Zs") (by walk_at "Zd") (by walk_at "Zd") (by walk_at "Zd") (by walk_at "Zd"))
local macro_rules | `(tactic| walk_at "Zt") => `(tactic| first | assumption | exact zt1 (by assumption) (by walk_at "Zs") | exact zt2 (by walk_at "Zs"))
local macro_rules | `(tactic| walk_at "Zl") => `(tactic| first | assumption | exact zl1 (by assumption) (by walk_at "Zs") | exact zl2 (by walk_at "Zs"))
local macro_rules | `(tactic| walk_at "Zv") => `(tactic| first | exact DVs.nil | exact DVs.cons (by walk_at "Zd") (by walk_at "Zv"))
local macro_rules | `(tactic| walk_at "Zb") => `(tactic| first | with_reducible assumption | exact bd_zero 1 (by decide) | exact bd_one 1 (by decide) | with_reducible exact Bd.mul (by walk_at "Zb") (by walk_at "Zb") | with_reducible exact Bd.add (by walk_at "Zb") (by walk_at "Zb") | with_reducible exact Bd.sub (by walk_at "Zb") (by walk_at "Zb") | with_reducible exact Tb.a (by with_reducible assumption) | with_reducible exact Tb.b (by with_reducible assumption) | with_reducible exact Tb.c (by with_reducible assumption) | with_reducible exact Tb.d (by with_reducible assumption) | with_reducible exact Rb.y (by with_reducible assumption) | with_reducible exact Rb.u (by with_reducible assumption))
local macro_rules | `(tactic| walk_at "Zm") => `(tactic| first | with_reducible assumption | with_reducible exact Sm.zero | with_reducible exact Sm.one | exact Bd.sm (by walk_at "Zb") (by first | decide | omega))
local macro_rules | `(tactic| walk_at "Zr") => `(tactic| first | exact ⟨_, _, rfl, by walk_at "Zm", by walk_at "Zm", rfl⟩ | exact ⟨_, _, rfl, by walk_at "Zm", by walk_at "Zm", by assumption, rfl⟩)
local macro_rules | `(tactic| walk_at "Zc") => `(tactic| (refine ⟨_, _, by walk_at "Zv", by walk_at "Zr", fun v H' s hv => ?_⟩; (first | (obtain rfl := DV.bl_of hv) | (have := (show DV _ _ _ (frD _) from hv); clear this) | (obtain ⟨a, x1, x2, x3, x4, rfl, ha, h1, h2, h3, h4⟩ := DV.t4 hv) | (obtain ⟨a, x1, x2, x3, rfl, ha, h1, h2, h3⟩ := DV.t3 hv) | (obtain ⟨a, x1, x2, rfl, ha, h1, h2⟩ := DV.t2 hv) | skip)))
local macro_rules | `(tactic| walk_at "Zp") => `(tactic| first | refine ⟨by (show 2 ≤ sizeLine; decide), fun p hp => ?_⟩ | refine ⟨by (show 3 ≤ sizeLine; decide), fun p hp => ?_⟩ | refine ⟨by (show 4 ≤ sizeLine; decide), fun p hp => ?_⟩)
local macro_rules | `(tactic| walk_at "Zn") => `(tactic| first | refine ⟨_, rfl, ?_⟩ | refine ⟨_, _, _, _, rfl, rfl, by walk_at "Zt", by rfl, ?_⟩ | refine ⟨_, _, rfl, rfl, ?_⟩)
local macro_rules | `(tactic| walk_at "Z1") => `(tactic| first | walk_at "Zn" | walk_at "Zp" | walk_at "Zc" | refine iteF ?_ | refine iteT ?_)
local macro_rules | `(tactic| walk_at "Z") => `(tactic| repeat walk_at "Z1")
section
variable {P : Program} {w : World} {K : PySem.W.Frag} {mg : Str → Option Value} {base : Heap} {ad : Adr} {c : Bool}
theorem c__law_stop (T : Txt K mg ad) : CalB P w K mg base true 4 "_law_stop" ["_law_cell"] (spLPs K) := by
  have C__law_ratio := c__law_ratio (P := P) (w := w) (base := base) T
  have C__law_mix := c__law_mix (P := P) (w := w) (base := base) T
  have C_sum_of := c_sum_of (P := P) (w := w) (base := base) T
  have C_ratio_of := c_ratio_of (P := P) (w := w) (base := base) T
  refine T.t__law_stop.calN sc__law_stop (fun _ _ _ _ _ _ => by1 fun _ => rfl) (fun vs H Q E h => ?_) (fun f cdv A outer s H vs Q E hr h => ?_)
  · obtain ⟨_, rfl, _⟩ := h; rfl
  obtain ⟨z, rfl, q⟩ := h
  refine ⟨_, (pss_cons (ps_set (i := 1) sc__law_stop.nd rfl (Or.inl rfl) (pe_cB C__law_ratio (hr.mono (by decide)) pass01 (pa_name (pv 0) (pa_const pe_int pa_nil)))) (pss_one (ps_ret (pe_tup (pa_const pe_str (pa_name (pv 1) (pa_call (pe_cB C_sum_of (hr.mono (by decide)) pass01 (pa_name (pv 1) (pa_call (pe_cB C_ratio_of (hr.mono (by decide)) pass01 (pa_call (pe_cB C__law_mix (hr.mono (by decide)) pass01 (pa_name (pv 0) (pa_const pe_int (pa_const pe_int pa_nil)))) (pa_bin (pe_op op_add pe_int (pe_cB C__law_mix (hr.mono (by decide)) pass01 (pa_name (pv 0) (pa_const pe_int (pa_const pe_int pa_nil))))) pa_nil))) pa_nil))) pa_nil))))))), ?_⟩
  refine ⟨_, rfl, z, _, rfl, by decide, by decide, fun v1 H1 q1 s1 hv1 b1 => ?_⟩
  refine ⟨_, rfl, _, rfl, _, rfl, z, _, _, rfl, by decide, by decide, by decide, fun x2 x20 x21 => ?_⟩
  refine ⟨_, rfl, z, _, _, rfl, by decide, by decide, by decide, fun x3 x30 x31 => ⟨_, _, rfl, rfl, ?_⟩⟩
  have p7 : (2 : Nat) ^ 7 = 128 := by decide
  have c0 : (1 + x3 : Int) ≠ 0 := by omega
  have cs : (1 + x3 : Int).natAbs < 2 ^ 7 := by omega
  refine ⟨_, _, rfl, c0, Nat.lt_of_lt_of_le cs (by unfold lim; exact pow_le (by decide)), fun p2 hp2 => ?_⟩
  have u2 := same_new hp2 (.tup [.int (Fr.lt x2 (1 + x3)), .int (Fr.lb x2 (1 + x3))])
  have d2 : DV K _ (.ref p2) (frD (Rat.divInt x2 (1 + x3))) := dv_low (H := H1) c0
  have b2 : Bd 7 (Rat.divInt x2 (1 + x3)) := Bd.of c0 (by omega) cs
  have nn := div_nn x20 (show 0 ≤ 1 + x3 by omega)
  generalize Rat.divInt x2 (1 + x3) = q2 at d2 b2 nn
  refine ⟨_, _, .cons (hv1.keep u2) (.cons d2 .nil), ⟨_, _, rfl, b1.sm (by decide), b2.sm (by decide), rfl⟩, fun v3 H3 s3 hv3 => ⟨(by show 3 ≤ sizeLine; decide), fun p hp => ?_⟩⟩
  exact q _ _ (.stop q1 (q1 + q2)) (s1.trans (u2.trans (s3.trans (same_new hp _)))) (DV.upd3 hp (.str _) (hv1.keep (u2.trans s3)) hv3) (show ¬ q1 + q2 < q1 by grind) ⟨b1.mono (by decide), (b1.add b2).mono (by decide)⟩
theorem c__law_bench (T : Txt K mg ad) : CalB P w K mg base true 5 "_law_bench" ["_law_cells"] (spLBf K) := by
  have C__law_ratio := c__law_ratio (P := P) (w := w) (base := base) T
  have C__law_mix := c__law_mix (P := P) (w := w) (base := base) T
  have C__law_stop := c__law_stop (P := P) (w := w) (base := base) T
  refine T.t__law_bench.calN sc__law_bench (fun _ _ _ _ _ _ => by1 fun _ => rfl) (fun vs H Q E h => ?_) (fun f cdv A outer s H vs Q E hr h => ?_)
  · obtain ⟨_, _, rfl, _⟩ := h; rfl
  obtain ⟨a, ns, rfl, ha, hn, q⟩ := h
  refine ⟨_, (pss_cons (ps_set (i := 1) sc__law_bench.nd rfl (Or.inl rfl) (pe_lst pa_nil)) (pss_cons (ps_for PassesOwn.never rfl (pi_list (pv 0)) (pg_name (i := 2) sc__law_bench.nd rfl (by first | exact Or.inl rfl | exact Or.inr rfl)) (pss_cons (ps_set (i := 3) sc__law_bench.nd rfl (Or.inl rfl) (pe_cB C__law_mix (hr.mono (by decide)) pass01 (pa_name (pv 2) (pa_const pe_int (pa_const pe_int pa_nil))))) (pss_one (ps_if (pt_cmpR op_lt (pv 3) pe_int (nomark _)) (pss_one (ps_expr (pe_bm PySem.F.plainAttrs_list PySem.F.slot_list_append PySem.F.type_list_append mt_append (pv 1) (pa_tuple (pe_tup (pa_const pe_str (pa_call (pe_cB C__law_ratio (hr.mono (by decide)) pass01 (pa_name (pv 2) (pa_const pe_int pa_nil))) pa_nil))) pa_nil)))) (pss_one (ps_if (pt_cmpR op_lt (pv 3) pe_int (nomark _)) (pss_one (ps_expr (pe_bm PySem.F.plainAttrs_list PySem.F.slot_list_append PySem.F.type_list_append mt_append (pv 1) (pa_tuple (pe_tup (pa_const pe_str (pa_call (pe_cB C__law_ratio (hr.mono (by decide)) pass01 (pa_name (pv 2) (pa_const pe_int pa_nil))) pa_nil))) pa_nil)))) (pss_one (ps_if (pt_cmpR op_lt (pe_callB call_len_seq rfl T.len bt_len (pa_cons (pe_comp ["_law_piece"] [none] rfl (pi_list (pv 1)) (fun _ _ _ _ _ => (pg_name (i := 0) (show List.Nodup [("_law_piece" : Str)] by decide) rfl (by first | exact Or.inl rfl | exact Or.inr rfl))) (fun _ _ _ _ _ => (pifs_one (pt_cmpR op_eq (pe_ix (ix_tupK (K := K)) (pv 0) pe_int (fun _ _ => rfl)) pe_str (nomark _)))) (fun _ _ _ _ _ => (pv 0)) (cap_nil (by decide) (by decide)) (by decide) rfl (by decide) rfl (nocap rfl)) pa_nil)) pe_int (nomark _)) (pss_one (ps_expr (pe_bm PySem.F.plainAttrs_list PySem.F.slot_list_append PySem.F.type_list_append mt_append (pv 1) (pa_call (pe_cB C__law_stop (hr.mono (by decide)) pass01 (pa_name (pv 2) pa_nil)) pa_nil)))) pss_nil)))))))) (pss_one (ps_ret (pv 1))))), ?_⟩
  refine ⟨(by show 0 ≤ sizeLine; decide), fun l nl => ?_⟩
  have u0 := same_new nl (.lst [])
  have hl0 : upd H l (.lst []) l = some (.lst []) := upd_same
  generalize upd H l (.lst []) = H0 at u0 hl0 ⊢
  refine ⟨_, rfl, a, rfl, ⟨_, ha.keep u0⟩, ?_⟩
  refine for_list (K := K) (a := a) (xs := ns.map V.int) (fun i σ H' => ∃ c2 c3 vs ps, σ = [some (.ref a), some (.ref l), c2, c3] ∧ Same H H' ∧ H' l = some (.lst vs) ∧ DVs K H' vs (ps.map pcD) ∧ ps.length ≤ i ∧ (∀ p ∈ ps, p.ok) ∧ ∀ p ∈ ps, p.fd 7 15) ⟨_, _, [], [], rfl, u0, hl0, .nil, Nat.le_refl _, (fun _ h => nomatch h), fun _ h => nomatch h⟩ ?_ ?_ ?_
  · rintro i σ H' hi ⟨c2, c3, vs, ps, rfl, s3, _⟩
    exact ha.keep s3
  · rintro i x σ H' hi ⟨c2, c3, vs, ps, rfl, s3, hlv, hvs, hle, ok, bd⟩
    have hi60 : i < 60 := by have := lt_of_get hi; rw [List.length_map] at this; omega
    obtain ⟨z, _, rfl⟩ := List.mem_map.mp (List.mem_of_getElem? hi)
    have vl : vs.length = ps.length := by have := hvs.len; rw [List.length_map] at this; exact this
    have fin : ∀ (v : V) (pc : Pc) (H5 : Hp) (c3 : Option V), Same H' H5 → DV K H5 v (pcD pc) → pc.ok → pc.fd 7 15 → ∃ (c2' c3' : Option V) (vs' : List V) (ps' : List Pc), ([some (.ref a), some (.ref l), some (.int z), c3] : St) = [some (.ref a), some (.ref l), c2', c3'] ∧ Same H (upd H5 l (.lst (vs ++ [v]))) ∧ upd H5 l (.lst (vs ++ [v])) l = some (.lst vs') ∧ DVs K (upd H5 l (.lst (vs ++ [v]))) vs' (ps'.map pcD) ∧ ps'.length ≤ i + 1 ∧ (∀ p ∈ ps', p.ok) ∧ ∀ p ∈ ps', p.fd 7 15 := by
      intro v pc H5 c3 s5 hv o b
      have hl5 := s5 _ _ hlv
      have uT := sameT_upd hl5 (.lst (vs ++ [v]))
      refine ⟨_, _, vs ++ [v], ps ++ [pc], rfl, ?_, upd_same, ?_, len_step hle, ?_, ?_⟩
      · intro b o e
        rw [upd_ne (ne_of_none e nl)]
        exact (s3.trans s5) _ _ e
      · rw [List.map_append]
        exact dvs_keepT uT (by rw [← List.map_append]; exact noLs_map noL_pc _) ((hvs.keep s5).append (.cons hv .nil))
      · intro p' hp'
        rcases List.mem_append.mp hp' with h | h
        · exact ok p' h
        · rw [List.mem_singleton.mp h]; exact o
      · intro p' hp'
        rcases List.mem_append.mp hp' with h | h
        · exact bd p' h
        · rw [List.mem_singleton.mp h]; exact b
    refine ⟨_, rfl, z, _, _, rfl, by decide, by decide, by decide, fun x1 x10 x11 => ?_⟩
    refine ⟨_, rfl, _, _, rfl, rfl, _, rfl, ite2 (fun _ => ?_) (fun _ => ?_)⟩
    · refine ⟨_, rfl, .inl ⟨rfl, _, SqL.of hlv⟩, ?_⟩
      refine ⟨_, rfl, z, _, rfl, by decide, by decide, fun v1 H1 q1 s1 hv1 b1 => ⟨(by show 2 ≤ sizeLine; decide), fun p hp => ?_⟩⟩
      have u1 := same_new hp (.tup [.str "gap", v1])
      refine ⟨l, vs, _, rfl, rfl, (s1.trans u1) _ _ hlv, small1000 (by omega), ?_⟩
      exact fin _ (.gap q1) _ _ (s1.trans u1) (DV.upd2 hp (.str _) hv1) trivial b1
    refine ⟨_, rfl, _, _, rfl, rfl, _, rfl, ite2 (fun _ => ?_) (fun _ => ?_)⟩
    · refine ⟨_, rfl, .inl ⟨rfl, _, SqL.of hlv⟩, ?_⟩
      refine ⟨_, rfl, z, _, rfl, by decide, by decide, fun v1 H1 q1 s1 hv1 b1 => ⟨(by show 2 ≤ sizeLine; decide), fun p hp => ?_⟩⟩
      have u1 := same_new hp (.tup [.str "glass", v1])
      refine ⟨l, vs, _, rfl, rfl, (s1.trans u1) _ _ hlv, small1000 (by omega), ?_⟩
      exact fin _ (.glass q1) _ _ (s1.trans u1) (DV.upd2 hp (.str _) hv1) trivial b1
    refine ⟨_, rfl, l, rfl, ⟨_, SqL.of hlv⟩, ?_⟩
    refine comp_list (K := K) (a := l) (xs := vs) (fun j σ ys H2 => ∃ c0, σ = [c0] ∧ H2 = H' ∧ ys.length ≤ j) ⟨_, rfl, rfl, Nat.le_refl _⟩ ?_ ?_ ?_
    · rintro j σ ys H2 hj ⟨c0, rfl, rfl, hyl⟩
      exact ⟨Nat.le_of_lt (small1000 (by omega)), SqL.of hlv⟩
    · rintro j x σ ys H2 hj ⟨c0, rfl, rfl, hyl⟩
      obtain ⟨d, hd, hx⟩ := hvs.get hj
      obtain ⟨pc, hpc, rfl⟩ := get_map_pc hd
      obtain ⟨pa, wd, xs, rfl, hpa⟩ := pc_word hx
      exact ⟨_, rfl, pa, _, _, _, rfl, rfl, hpa, atI0, rfl, _, rfl, ite2 (fun _ => ⟨_, rfl, nx (lt_of_get hj) ⟨_, rfl, rfl, len_step hyl⟩⟩) (fun _ => nx (lt_of_get hj) ⟨_, rfl, rfl, Nat.le_succ_of_le hyl⟩)⟩
    rintro σ' ys H2 lc ⟨c0, rfl, rfl, hyl⟩ hlc
    have u2 := same_new hlc (.lst ys)
    have hlc2 : upd H2 lc (.lst ys) lc = some (.lst ys) := upd_same
    generalize upd H2 lc (.lst ys) = H3 at u2 hlc2 ⊢
    refine ⟨lc, _, rfl, .inl (SqL.of hlc2), _, _, rfl, rfl, _, rfl, ite2 (fun _ => ?_) (fun _ => ?_)⟩
    · refine ⟨_, rfl, .inl ⟨rfl, _, SqL.of (u2 _ _ hlv)⟩, ?_⟩
      refine ⟨_, rfl, z, rfl, fun v1 H4 pc s4 hv1 o b => ?_⟩
      refine ⟨l, vs, _, rfl, rfl, (u2.trans s4) _ _ hlv, small1000 (by omega), ?_⟩
      exact fin v1 pc _ _ (u2.trans s4) hv1 o b
    · exact ⟨_, _, vs, ps, rfl, s3.trans u2, u2 _ _ hlv, hvs.keep u2, Nat.le_succ_of_le hle, ok, bd⟩
  · rintro σ H' ⟨c2, c3, vs, ps, rfl, s3, hlv, hvs, hle, ok, bd⟩
    rw [List.length_map] at hle
    exact ⟨_, rfl, q l H' vs ps s3 nl hlv hvs hle ok bd⟩
end
end K42
namespace K42
open PySem L2 Lib Fr Op
seal PE PT PW PA PS PSs PG PGs PI PO PIfs
local macro_rules | `(tactic| walk_at "Zs") => `(tactic| first | with_reducible assumption | with_reducible exact Same.refl _ | exact zs1 (by with_reducible assumption) (by walk_at "Zs") | exact zs2 (by with_reducible assumption) (by walk_at "Zs"))
local macro_rules | `(tactic| walk_at "Zd") => `(tactic| first | with_reducible assumption | with_reducible exact DV.int _ | with_reducible exact DV.str _ | with_reducible exact DV.bl _ | with_reducible exact DV.non | exact zd1 (by first | with_reducible assumption | assumption) (by walk_at "Zs") | with_reducible exact dN (by assumption) _ | with_reducible exact dO (by assumption) _ | exact zd2 (by with_reducible assumption) (by walk_at "Zs") (by walk_at "Zd") (by walk_at "Zd") | exact zd3 (by with_reducible assumption) (by walk_at "Zs") (by walk_at "Zd") (by walk_at "Zd") (by walk_at "Zd") | exact zd4 (by with_reducible assumption) (by walk_at "Zs") (by walk_at "Zd") (by walk_at "Zd") (by walk_at "Zd") (by walk_at "Zd"))
local macro_rules | `(tactic| walk_at "Zt") => `(tactic| first | assumption | exact zt1 (by assumption) (by walk_at "Zs") | exact zt2 (by walk_at "Zs"))
local macro_rules | `(tactic| walk_at "Zl") => `(tactic| first | assumption | exact zl1 (by assumption) (by walk_at "Zs") | exact zl2 (by walk_at "Zs"))
local macro_rules | `(tactic| walk_at "Zv") => `(tactic| first | exact DVs.nil | exact DVs.cons (by walk_at "Zd") (by walk_at "Zv"))
local macro_rules | `(tactic| walk_at "Zb") => `(tactic| first | with_reducible assumption | exact bd_zero 1 (by decide) | exact bd_one 1 (by decide) | with_reducible exact Bd.mul (by walk_at "Zb") (by walk_at "Zb") | with_reducible exact Bd.add (by walk_at "Zb") (by walk_at "Zb") | with_reducible exact Bd.sub (by walk_at "Zb") (by walk_at "Zb") | with_reducible exact Tb.a (by with_reducible assumption) | with_reducible exact Tb.b (by with_reducible assumption) | with_reducible exact Tb.c (by with_reducible assumption) | with_reducible exact Tb.d (by with_reducible assumption) | with_reducible exact Rb.y (by with_reducible assumption) | with_reducible exact Rb.u (by with_reducible assumption))
local macro_rules | `(tactic| walk_at "Zm") => `(tactic| first | with_reducible assumption | with_reducible exact Sm.zero | with_reducible exact Sm.one | exact Bd.sm (by walk_at "Zb") (by first | decide | omega))
local macro_rules | `(tactic| walk_at "Zr") => `(tactic| first | exact ⟨_, _, rfl, by walk_at "Zm", by walk_at "Zm", rfl⟩ | exact ⟨_, _, rfl, by walk_at "Zm", by walk_at "Zm", by assumption, rfl⟩)
local macro_rules | `(tactic| walk_at "Zc") => `(tactic| (refine ⟨_, _, by walk_at "Zv", by walk_at "Zr", fun v H' s hv => ?_⟩; (first | (obtain rfl := DV.bl_of hv) | (have := (show DV _ _ _ (frD _) from hv); clear this) | (obtain ⟨a, x1, x2, x3, x4, rfl, ha, h1, h2, h3, h4⟩ := DV.t4 hv) | (obtain ⟨a, x1, x2, x3, rfl, ha, h1, h2, h3⟩ := DV.t3 hv) | (obtain ⟨a, x1, x2, rfl, ha, h1, h2⟩ := DV.t2 hv) | skip)))
local macro_rules | `(tactic| walk_at "Zp") => `(tactic| first | refine ⟨by (show 2 ≤ sizeLine; decide), fun p hp => ?_⟩ | refine ⟨by (show 3 ≤ sizeLine; decide), fun p hp => ?_⟩ | refine ⟨by (show 4 ≤ sizeLine; decide), fun p hp => ?_⟩)
local macro_rules | `(tactic| walk_at "Zn") => `(tactic| first | refine ⟨_, rfl, ?_⟩ | refine ⟨_, _, _, _, rfl, rfl, by walk_at "Zt", by rfl, ?_⟩ | refine ⟨_, _, rfl, rfl, ?_⟩)
local macro_rules | `(tactic| walk_at "Z1") => `(tactic| first | walk_at "Zn" | walk_at "Zp" | walk_at "Zc" | refine iteF ?_ | refine iteT ?_)
local macro_rules | `(tactic| walk_at "Z") => `(tactic| repeat walk_at "Z1")
section
variable {P : Program} {w : World} {K : PySem.W.Frag} {mg : Str → Option Value} {base : Heap} {ad : Adr} {c : Bool}
theorem c__law_cell_at (T : Txt K mg ad) : CalB P w K mg base true 1 "_law_cell_at" ["_law_script", "_law_k"] (spCell K) := by
  refine T.t__law_cell_at.calN sc__law_cell_at (fun _ _ _ _ _ _ => by2 fun _ _ => rfl) (fun vs H Q E h => ?_) (fun f cdv A outer s H vs Q E hr h => ?_)
  · obtain ⟨_, _, _, rfl, _⟩ := h; rfl
  obtain ⟨a, ns, k, rfl, hS, k0, q⟩ := h
  refine ⟨_, (pss_cons (ps_if (pt_cmpR op_lt (pv 1) (pe_callB call_len_seq rfl T.len bt_len (pa_name (pv 0) pa_nil)) (nomark _)) (pss_one (ps_ret (pe_ix ix_list (pv 0) (pv 1) (fun _ _ => rfl)))) pss_nil) (pss_one (ps_ret pe_int))), ?_⟩
  refine ⟨_, rfl, _, rfl, a, _, rfl, .inl hS, _, _, rfl, rfl, _, rfl, ?_⟩
  refine ite2 (fun hc => ?_) (fun _ => q 0)
  have hc : k < (((ns.map V.int).length : Nat) : Int) := of_decide_eq_true hc
  obtain ⟨v, hv, hm⟩ := atI_in (xs := ns.map V.int) k0 hc
  obtain ⟨z, _, rfl⟩ := List.mem_map.mp hm
  exact ⟨_, rfl, _, rfl, a, _, _, _, rfl, rfl, hS, hv, q z⟩
theorem c__law_box (T : Txt K mg ad) : CalB P w K mg base true 4 "_law_box" ["_law_cell", "_law_other"] (spBoxC K) := by
  have C__law_ratio := c__law_ratio (P := P) (w := w) (base := base) T
  have C__law_mix := c__law_mix (P := P) (w := w) (base := base) T
  have C_sum_of := c_sum_of (P := P) (w := w) (base := base) T
  have C_ratio_of := c_ratio_of (P := P) (w := w) (base := base) T
  refine T.t__law_box.calN sc__law_box (fun _ _ _ _ _ _ => by2 fun _ _ => rfl) (fun vs H Q E h => ?_) (fun f cdv A outer s H vs Q E hr h => ?_)
  · obtain ⟨_, _, rfl, _⟩ := h; rfl
  obtain ⟨z, o, rfl, q⟩ := h
  have p7 : (2 : Nat) ^ 7 = 128 := by decide
  refine ⟨_, (pss_cons (ps_set (i := 2) sc__law_box.nd rfl (Or.inl rfl) (pe_cB C__law_ratio (hr.mono (by decide)) pass01 (pa_name (pv 0) (pa_const pe_int pa_nil)))) (pss_cons (ps_set (i := 3) sc__law_box.nd rfl (Or.inl rfl) (pe_cB C__law_ratio (hr.mono (by decide)) pass01 (pa_name (pv 1) (pa_const pe_int pa_nil)))) (pss_cons (ps_set (i := 4) sc__law_box.nd rfl (Or.inl rfl) (pe_cB C_ratio_of (hr.mono (by decide)) pass01 (pa_call (pe_cB C__law_mix (hr.mono (by decide)) pass01 (pa_name (pv 0) (pa_const pe_int (pa_const pe_int pa_nil)))) (pa_bin (pe_op op_add pe_int (pe_cB C__law_mix (hr.mono (by decide)) pass01 (pa_name (pv 0) (pa_const pe_int (pa_const pe_int pa_nil))))) pa_nil)))) (pss_cons (ps_set (i := 5) sc__law_box.nd rfl (Or.inl rfl) (pe_cB C_ratio_of (hr.mono (by decide)) pass01 (pa_call (pe_cB C__law_mix (hr.mono (by decide)) pass01 (pa_name (pv 1) (pa_const pe_int (pa_const pe_int pa_nil)))) (pa_bin (pe_op op_add pe_int (pe_cB C__law_mix (hr.mono (by decide)) pass01 (pa_name (pv 1) (pa_const pe_int (pa_const pe_int pa_nil))))) pa_nil)))) (pss_cons (ps_if (pt_cmpR op_eq (pe_op op_mod (pv 0) pe_int) pe_int (nomark _)) (pss_one (ps_set (i := 4) sc__law_box.nd rfl (Or.inl rfl) (pe_tup (pa_const pe_int (pa_const pe_int pa_nil))))) pss_nil) (pss_cons (ps_if (pt_cmpR op_eq (pe_op op_mod (pv 1) pe_int) pe_int (nomark _)) (pss_one (ps_set (i := 5) sc__law_box.nd rfl (Or.inl rfl) (pe_tup (pa_const pe_int (pa_const pe_int pa_nil))))) pss_nil) (pss_one (ps_ret (pe_tup (pa_name (pv 2) (pa_call (pe_cB C_sum_of (hr.mono (by decide)) pass01 (pa_name (pv 2) (pa_name (pv 4) pa_nil))) (pa_name (pv 3) (pa_call (pe_cB C_sum_of (hr.mono (by decide)) pass01 (pa_name (pv 3) (pa_name (pv 5) pa_nil))) pa_nil))))))))))))), ?_⟩
  refine ⟨_, rfl, z, _, rfl, by decide, by decide, fun v1 H1 q1 s1 hv1 b1 => ?_⟩
  refine ⟨_, rfl, o, _, rfl, by decide, by decide, fun v2 H2 q2 s2 hv2 b2 => ?_⟩
  refine ⟨_, rfl, z, _, _, rfl, by decide, by decide, by decide, fun x3 x30 x31 => ?_⟩
  refine ⟨_, rfl, z, _, _, rfl, by decide, by decide, by decide, fun x4 x40 x41 => ⟨_, _, rfl, rfl, ?_⟩⟩
  have c0 : (1 + x4 : Int) ≠ 0 := by omega
  have cs : (1 + x4 : Int).natAbs < 2 ^ 7 := by omega
  refine ⟨_, _, rfl, c0, Nat.lt_of_lt_of_le cs (by unfold lim; exact pow_le (by decide)), fun pw hpw => ?_⟩
  have uw := same_new hpw (.tup [.int (Fr.lt x3 (1 + x4)), .int (Fr.lb x3 (1 + x4))])
  have hwv : DV K _ (.ref pw) (frD (Rat.divInt x3 (1 + x4))) := dv_low (H := H2) c0
  have wb : Bd 7 (Rat.divInt x3 (1 + x4)) := Bd.of c0 (by omega) cs
  have nw := div_nn x30 (show 0 ≤ 1 + x4 by omega)
  generalize Rat.divInt x3 (1 + x4) = wq at hwv wb nw
  generalize upd H2 pw (.tup [.int (Fr.lt x3 (1 + x4)), .int (Fr.lb x3 (1 + x4))]) = H3 at uw hwv ⊢
  refine ⟨_, rfl, o, _, _, rfl, by decide, by decide, by decide, fun y3 y30 y31 => ?_⟩
  refine ⟨_, rfl, o, _, _, rfl, by decide, by decide, by decide, fun y4 y40 y41 => ⟨_, _, rfl, rfl, ?_⟩⟩
  have d0 : (1 + y4 : Int) ≠ 0 := by omega
  have ds : (1 + y4 : Int).natAbs < 2 ^ 7 := by omega
  refine ⟨_, _, rfl, d0, Nat.lt_of_lt_of_le ds (by unfold lim; exact pow_le (by decide)), fun ps hps => ?_⟩
  have us := same_new hps (.tup [.int (Fr.lt y3 (1 + y4)), .int (Fr.lb y3 (1 + y4))])
  have hsv : DV K _ (.ref ps) (frD (Rat.divInt y3 (1 + y4))) := dv_low (H := H3) d0
  have sb : Bd 7 (Rat.divInt y3 (1 + y4)) := Bd.of d0 (by omega) ds
  have nsq := div_nn y30 (show 0 ≤ 1 + y4 by omega)
  generalize Rat.divInt y3 (1 + y4) = sq at hsv sb nsq
  have hwv := hwv.keep us
  generalize upd H3 ps (.tup [.int (Fr.lt y3 (1 + y4)), .int (Fr.lb y3 (1 + y4))]) = H4 at us hsv hwv ⊢
  have z7 : Bd 7 (0 : Rat) := (⟨by decide +kernel, by decide +kernel⟩ : Bd 1 (0 : Rat)).mono (by decide)
  have t2 : Same H2 H4 := uw.trans us
  have t1 : Same H1 H4 := s2.trans t2
  refine ⟨_, rfl, _, _, rfl, rfl, (by show (0 : Int) < 9; decide), rfl, _, rfl, ite2 (fun _ => ?_) (fun _ => ?_)⟩
  · refine ⟨(by show 2 ≤ sizeLine; decide), fun p5 hp5 => ?_⟩
    have u5 := same_new hp5 (.tup [.int 0, .int 1])
    have d5 : DV K (upd H4 p5 (.tup [.int 0, .int 1])) (.ref p5) (frD 0) := fr01
    have hsv := hsv.keep u5
    have t2 := t2.trans u5
    have t1 := t1.trans u5
    generalize upd H4 p5 (.tup [.int 0, .int 1]) = H4 at d5 hsv t1 t2 ⊢
    have hwv := d5
    have wb := z7
    have nw : (0 : Rat) ≤ 0 := by grind
    refine ⟨_, rfl, _, _, rfl, rfl, (by show (0 : Int) < 9; decide), rfl, _, rfl, ite2 (fun _ => ?_) (fun _ => ?_)⟩
    · refine ⟨(by show 2 ≤ sizeLine; decide), fun p6 hp6 => ?_⟩
      have u6 := same_new hp6 (.tup [.int 0, .int 1])
      have d6 : DV K (upd H4 p6 (.tup [.int 0, .int 1])) (.ref p6) (frD 0) := fr01
      have hwv := hwv.keep u6
      have t2 := t2.trans u6
      have t1 := t1.trans u6
      generalize upd H4 p6 (.tup [.int 0, .int 1]) = H4 at d6 hwv t1 t2 ⊢
      have hsv := d6
      have sb := z7
      have nsq : (0 : Rat) ≤ 0 := by grind
      clear us uw
      generalize hs0 : (0 : Rat) = sq at hsv sb nsq
      generalize hw0 : (0 : Rat) = wq at hwv wb nw
      have nw : 0 ≤ wq := by grind
      have nsq : 0 ≤ sq := by grind
      refine ⟨_, rfl, _, rfl, _, rfl, _, _, .cons (hv1.keep t1) (.cons hwv .nil), ⟨_, _, rfl, b1.sm (by decide), wb.sm (by decide), rfl⟩, fun v5 H5 s5 hv5 => ?_⟩
      refine ⟨_, rfl, _, rfl, _, rfl, _, _, .cons (hv2.keep (t2.trans s5)) (.cons (hsv.keep s5) .nil), ⟨_, _, rfl, b2.sm (by decide), sb.sm (by decide), rfl⟩, fun v6 H6 s6 hv6 => ?_⟩
      refine ⟨(by show 4 ≤ sizeLine; decide), fun p7 hp7 => ?_⟩
      refine q _ _ ⟨q1, q1 + wq, q2, q2 + sq⟩ (s1.trans (t1.trans (s5.trans (s6.trans (same_new hp7 _))))) (DV.upd4 hp7 (hv1.keep (t1.trans (s5.trans s6))) (hv5.keep s6) (hv2.keep (t2.trans (s5.trans s6))) hv6) ⟨by show q1 ≤ q1 + wq; grind, by show q2 ≤ q2 + sq; grind⟩ ⟨b1.mono (by decide), (b1.add wb).mono (by decide), b2.mono (by decide), (b2.add sb).mono (by decide)⟩
    · generalize hw0 : (0 : Rat) = wq at hwv wb nw
      have nw : 0 ≤ wq := by grind
      have nsq : 0 ≤ sq := by grind
      refine ⟨_, rfl, _, rfl, _, rfl, _, _, .cons (hv1.keep t1) (.cons hwv .nil), ⟨_, _, rfl, b1.sm (by decide), wb.sm (by decide), rfl⟩, fun v5 H5 s5 hv5 => ?_⟩
      refine ⟨_, rfl, _, rfl, _, rfl, _, _, .cons (hv2.keep (t2.trans s5)) (.cons (hsv.keep s5) .nil), ⟨_, _, rfl, b2.sm (by decide), sb.sm (by decide), rfl⟩, fun v6 H6 s6 hv6 => ?_⟩
      refine ⟨(by show 4 ≤ sizeLine; decide), fun p7 hp7 => ?_⟩
      refine q _ _ ⟨q1, q1 + wq, q2, q2 + sq⟩ (s1.trans (t1.trans (s5.trans (s6.trans (same_new hp7 _))))) (DV.upd4 hp7 (hv1.keep (t1.trans (s5.trans s6))) (hv5.keep s6) (hv2.keep (t2.trans (s5.trans s6))) hv6) ⟨by show q1 ≤ q1 + wq; grind, by show q2 ≤ q2 + sq; grind⟩ ⟨b1.mono (by decide), (b1.add wb).mono (by decide), b2.mono (by decide), (b2.add sb).mono (by decide)⟩
  · refine ⟨_, rfl, _, _, rfl, rfl, (by show (0 : Int) < 9; decide), rfl, _, rfl, ite2 (fun _ => ?_) (fun _ => ?_)⟩
    · refine ⟨(by show 2 ≤ sizeLine; decide), fun p6 hp6 => ?_⟩
      have u6 := same_new hp6 (.tup [.int 0, .int 1])
      have d6 : DV K (upd H4 p6 (.tup [.int 0, .int 1])) (.ref p6) (frD 0) := fr01
      have hwv := hwv.keep u6
      have t2 := t2.trans u6
      have t1 := t1.trans u6
      generalize upd H4 p6 (.tup [.int 0, .int 1]) = H4 at d6 hwv t1 t2 ⊢
      have hsv := d6
      have sb := z7
      have nsq : (0 : Rat) ≤ 0 := by grind
      generalize hs0 : (0 : Rat) = sq at hsv sb nsq
      have nsq : 0 ≤ sq := by grind
      have nw : 0 ≤ wq := by grind
      refine ⟨_, rfl, _, rfl, _, rfl, _, _, .cons (hv1.keep t1) (.cons hwv .nil), ⟨_, _, rfl, b1.sm (by decide), wb.sm (by decide), rfl⟩, fun v5 H5 s5 hv5 => ?_⟩
      refine ⟨_, rfl, _, rfl, _, rfl, _, _, .cons (hv2.keep (t2.trans s5)) (.cons (hsv.keep s5) .nil), ⟨_, _, rfl, b2.sm (by decide), sb.sm (by decide), rfl⟩, fun v6 H6 s6 hv6 => ?_⟩
      refine ⟨(by show 4 ≤ sizeLine; decide), fun p7 hp7 => ?_⟩
      refine q _ _ ⟨q1, q1 + wq, q2, q2 + sq⟩ (s1.trans (t1.trans (s5.trans (s6.trans (same_new hp7 _))))) (DV.upd4 hp7 (hv1.keep (t1.trans (s5.trans s6))) (hv5.keep s6) (hv2.keep (t2.trans (s5.trans s6))) hv6) ⟨by show q1 ≤ q1 + wq; grind, by show q2 ≤ q2 + sq; grind⟩ ⟨b1.mono (by decide), (b1.add wb).mono (by decide), b2.mono (by decide), (b2.add sb).mono (by decide)⟩
    · have nw : 0 ≤ wq := nw
      have nsq : 0 ≤ sq := nsq
      refine ⟨_, rfl, _, rfl, _, rfl, _, _, .cons (hv1.keep t1) (.cons hwv .nil), ⟨_, _, rfl, b1.sm (by decide), wb.sm (by decide), rfl⟩, fun v5 H5 s5 hv5 => ?_⟩
      refine ⟨_, rfl, _, rfl, _, rfl, _, _, .cons (hv2.keep (t2.trans s5)) (.cons (hsv.keep s5) .nil), ⟨_, _, rfl, b2.sm (by decide), sb.sm (by decide), rfl⟩, fun v6 H6 s6 hv6 => ?_⟩
      refine ⟨(by show 4 ≤ sizeLine; decide), fun p7 hp7 => ?_⟩
      refine q _ _ ⟨q1, q1 + wq, q2, q2 + sq⟩ (s1.trans (t1.trans (s5.trans (s6.trans (same_new hp7 _))))) (DV.upd4 hp7 (hv1.keep (t1.trans (s5.trans s6))) (hv5.keep s6) (hv2.keep (t2.trans (s5.trans s6))) hv6) ⟨by show q1 ≤ q1 + wq; grind, by show q2 ≤ q2 + sq; grind⟩ ⟨b1.mono (by decide), (b1.add wb).mono (by decide), b2.mono (by decide), (b2.add sb).mono (by decide)⟩
end
end K42
namespace K42
open PySem L2 Lib Fr Op
seal PE PT PW PA PS PSs PG PGs PI PO PIfs
section
variable {P : Program} {w : World} {K : PySem.W.Frag} {mg : Str → Option Value} {base : Heap} {ad : Adr} {c : Bool}
theorem k_NoBench (T : Txt K mg ad) : XMk P w K mg base 1 "NoBench" ad.NoBench := by
  refine T.ex.j_NoBench.xmk sc_NoBench_init (fun _ _ _ _ _ _ => by2 fun _ _ => rfl) (fun fI O f cdv A outer s H vs Q E hr h => ?_)
  obtain ⟨e, v, rfl, he, q⟩ := h
  refine ⟨_, (pss_cons (ps_binit O T.ex.m_BenchError (pa_name (pv 0) (pa_name (pv 1) pa_nil))) (pss_one (ps_setat O (pv 0) (pv 1)))), ?_⟩
  exact ⟨_, rfl, _, rfl, e, v, none, rfl, he, _, rfl, _, rfl, e, rfl, he, fun dx n1 n2 => q dx n1 n2⟩
theorem x_is_piece (T : Txt K mg ad) : CalB P w K mg base true 3 "is_piece" ["thing"] (spPiece K) := by
  have C_is_less := c_is_less (P := P) (w := w) (base := base) T
  have C_is_ratio := c_is_ratio_any (P := P) (w := w) (base := base) T
  refine T.t_is_piece.calN sc_is_piece (fun _ _ _ _ _ _ => by1 fun _ => rfl) (fun vs H Q E h => ?_) (fun f cdv A outer s H vs Q E hr h => ?_)
  · obtain ⟨_, _, rfl, _⟩ := h; rfl
  obtain ⟨v, d, rfl, hv, sm, q⟩ := h
  refine ⟨_, (pss_cons (ps_if (PW.pt (pw_or (pt_not (pt_val (pe_callB call_isiD rfl T.isinstance bt_isinstance (pa_name (pv 0) (pa_name (pe_bltn (v := .ty "tuple") rfl T.tuple bt_tuple rfl) pa_nil))))) (pw_or (pt_cmpR op_lt (pe_callB call_len_seq rfl T.len bt_len (pa_name (pv 0) pa_nil)) pe_int (nomark _)) (pw_or1 (pt_not (pt_val (pe_callB call_isiD rfl T.isinstance bt_isinstance (pa_sub (pe_ix ix_tup (pv 0) pe_int (fun _ _ => rfl)) (pa_name (pe_bltn (v := .ty "str") rfl T.str bt_str rfl) pa_nil))))))))) (pss_one (ps_ret pe_bl)) pss_nil) (pss_cons (ps_if (pt_not (pt_val (pe_callB (call_all rfl) rfl T.all bt_all (pa_cons (pe_comp ["part"] [none] rfl (pi_tup (pe_slice sl_tup (pv 0) (po_some pe_int) po_none)) (fun _ _ _ _ _ => (pg_name (i := 0) (show List.Nodup [("part" : Str)] by decide) rfl (by first | exact Or.inl rfl | exact Or.inr rfl))) (fun _ _ _ _ _ => pifs_nil) (fun _ _ _ _ _ => (pe_cB C_is_ratio (hr.mono (by decide)) pass01 (pa_name (pv 0) pa_nil))) (cap_nil (by decide) (by decide)) (by decide) rfl (by decide) rfl (nocap rfl)) pa_nil)))) (pss_one (ps_ret pe_bl)) pss_nil) (pss_cons (ps_if (pt_cmpR op_eq (pe_ix ix_tup (pv 0) pe_int (fun _ _ => rfl)) (pe_glob (v := .str "stop") rfl T.ex.m_STOP ⟨_, rfl⟩) (nomark _)) (pss_one (ps_ret (pe_and (pe_cmpR op_eq (pe_callB call_len_seq rfl T.len bt_len (pa_name (pv 0) pa_nil)) pe_int (nomark _)) (pe_one (pe_not (pe_cB C_is_less (hr.mono (by decide)) pass01 (pa_sub (pe_ix ix_tup (pv 0) pe_int (fun _ _ => rfl)) (pa_sub (pe_ix ix_tup (pv 0) pe_int (fun _ _ => rfl)) pa_nil)))))))) pss_nil) (pss_one (ps_ret (pe_and (pe_cmpR op_in_seq (pe_ix ix_tup (pv 0) pe_int (fun _ _ => rfl)) (pe_tup (pa_name (pe_glob (v := .str "gap") rfl T.ex.m_GAP ⟨_, rfl⟩) (pa_name (pe_glob (v := .str "glass") rfl T.ex.m_GLASS ⟨_, rfl⟩) pa_nil))) (by rfl)) (pe_one (pe_cmpR op_eq (pe_callB call_len_seq rfl T.len bt_len (pa_name (pv 0) pa_nil)) pe_int (nomark _))))))))), ?_⟩
  refine ⟨_, rfl, _, _, _, _, rfl, hv, isTup_b d, _, rfl, ?_⟩
  cases ht : isTupD d with
  | false =>
    refine iteT (iteT ?_)
    have e : pieceD d = false := by
      cases d with
      | tuple ds => cases ht
      | _ => rfl
    rw [e] at q
    exact q _ (Same.refl _)
  | true =>
    obtain ⟨ds, rfl⟩ := isTup_of ht
    obtain ⟨a, xs, rfl, ha, hds⟩ := hv.tup_of
    refine iteF ?_
    refine ⟨_, rfl, a, _, rfl, .inr ha, _, _, rfl, rfl, _, rfl, ?_⟩
    rcases ds with _ | ⟨d0, _ | ⟨d1, dr⟩⟩
    · obtain rfl := hds.nil_of
      exact iteT' (by decide) (iteT (q _ (Same.refl _)))
    · obtain ⟨x0, xs, rfl, h0, hds⟩ := hds.cons_of
      obtain rfl := hds.nil_of
      have e : pieceD (.tuple [d0]) = false := by cases d0 <;> rfl
      rw [e] at q
      exact iteT' (decide_eq_true (by show ((1 : Nat) : Int) < 2; decide)) (iteT (q _ (Same.refl _)))
    · obtain ⟨x0, xs, rfl, h0, hds⟩ := hds.cons_of
      obtain ⟨x1, xr, rfl, h1, hr'⟩ := hds.cons_of
      refine iteF' (decide_eq_false (by simp only [List.length_cons]; omega)) ?_
      refine ⟨_, rfl, a, _, _, _, rfl, rfl, ha, atI0, _, _, _, _, rfl, h0, isStr_b d0, _, rfl, ?_⟩
      cases hs : isStrD d0 with
      | false =>
        refine iteT ?_
        have e : pieceD (.tuple (d0 :: d1 :: dr)) = false := by
          cases d0 with
          | str z => cases hs
          | _ => rfl
        rw [e] at q
        exact q _ (Same.refl _)
      | true =>
        obtain ⟨z, rfl⟩ := isStr_of hs
        obtain rfl := h0.str_of
        refine iteF ?_
        refine ⟨_, rfl, _, rfl, a, _, rfl, ha, (fun e => by rw [sIx1] at e; simp only [List.length_cons] at e; omega), fun p hp => ⟨p, rfl, ⟨_, SqT.of upd_same⟩, ?_⟩⟩
        rw [cut1]
        have u1 := same_new hp (.tup ((V.str z :: x1 :: xr).drop 1))
        have hparts : DVs K (upd H p (.tup ((V.str z :: x1 :: xr).drop 1))) (x1 :: xr) (d1 :: dr) := (DVs.cons h1 hr').keep u1
        refine comp_tup0 (K := K) (a := p) (xs := x1 :: xr) (fun i σ ys H' => ∃ c0, σ = [c0] ∧ ys = ((d1 :: dr).take i).map (fun d => V.bl (ratD d)) ∧ Same (upd H p (.tup ((V.str z :: x1 :: xr).drop 1))) H') ⟨_, rfl, rfl, Same.refl _⟩ ?_ ?_ ?_
        · rintro i σ ys H' hi ⟨c0, rfl, rfl, s'⟩
          refine ⟨?_, SqT.of (s' _ _ upd_same)⟩
          have := (DVs.cons h1 hr').len
          have z1 := (sm _ rfl).1
          have z2 := small1000 (n := 1000) (by decide)
          simp only [List.length_cons] at *
          rw [List.length_map, List.length_take]
          omega
        · rintro i x σ ys H' hi ⟨c0, rfl, rfl, s'⟩
          obtain ⟨dx, hdx, hx⟩ := hparts.get hi
          refine ⟨_, rfl, _, dx, rfl, hx.keep s', nx (lt_of_get hi) ⟨_, rfl, ?_, s'⟩⟩
          have hlt := lt_of_get hdx
          rw [List.take_add_one, hdx, List.map_append]
          rfl
        · rintro σ ys H' p2 ⟨c0, rfl, rfl, s'⟩ hp2
          have u2 := same_new hp2 (.lst (((d1 :: dr).take (x1 :: xr).length).map (fun d => V.bl (ratD d))))
          have t2 := u1.trans (s'.trans u2)
          have el : (d1 :: dr).take (x1 :: xr).length = d1 :: dr := List.take_of_length_le (by have := (DVs.cons h1 hr').len; omega)
          refine ⟨p2, (d1 :: dr).map ratD, rfl, SqL.of (by rw [upd_same, el, List.map_map]; rfl), _, rfl, ?_⟩
          have ea : ((d1 :: dr).map ratD).all id = (d1 :: dr).all ratD := by rw [List.all_map]; rfl
          rw [ea]
          cases hall : (d1 :: dr).all ratD with
          | false =>
            refine iteT ?_
            have e : pieceD (.tuple (.str z :: d1 :: dr)) = false := by show ((d1 :: dr).all ratD && _) = false; rw [hall]; rfl
            rw [e] at q
            exact q _ t2
          | true =>
            refine iteF ?_
            have hall' := List.all_eq_true.mp hall
            refine ⟨_, rfl, a, _, _, _, rfl, rfl, ha.keep t2, atI0, rfl, _, rfl, ?_⟩
            rw [decS]
            by_cases hz : z = "stop"
            · subst hz
              refine iteT' (by decide) ?_
              have e : pieceD (.tuple (.str "stop" :: d1 :: dr)) = stopD (d1 :: dr) := by show ((d1 :: dr).all ratD && _) = _; rw [hall]; rfl
              rw [e] at q
              refine ⟨_, rfl, a, _, rfl, .inr (ha.keep t2), rfl, _, rfl, ?_⟩
              rw [decI]
              rcases dr with _ | ⟨d2, _ | ⟨d3, dr'⟩⟩
              · obtain rfl := hr'.nil_of
                have e3 : stopD [d1] = false := by
                  unfold stopD
                  split
                  · rename_i ee; cases ee
                  · rfl
                rw [e3] at q
                exact iteF' (decide_eq_false (by show ¬ ((2 : Nat) : Int) = 3; decide)) (q _ t2)
              · obtain ⟨x2, xr, rfl, h2, hr'⟩ := hr'.cons_of
                obtain rfl := hr'.nil_of
                obtain ⟨lo, rfl⟩ := ratD_of (hall' d1 (by simp))
                obtain ⟨hi, rfl⟩ := ratD_of (hall' d2 (by simp))
                refine iteT' (decide_eq_true (by show ((3 : Nat) : Int) = 3; decide)) ?_
                refine ⟨_, rfl, a, _, _, _, rfl, rfl, ha.keep t2, rfl, _, rfl, a, _, _, _, rfl, rfl, ha.keep t2, rfl, ?_⟩
                refine ⟨_, _, .cons (h2.keep t2) (.cons (h1.keep t2) .nil), ⟨hi, lo, rfl, (sm _ rfl).2 _ (by simp), (sm _ rfl).2 _ (by simp), rfl⟩, fun v H3 s3 hv => ?_⟩
                obtain rfl := hv.bl_of
                refine ⟨_, rfl, ?_⟩
                rw [stopD_fr] at q
                exact q _ (t2.trans s3)
              · obtain ⟨x2, xr, rfl, h2, hr'⟩ := hr'.cons_of
                obtain ⟨x3, xr, rfl, h3, hr'⟩ := hr'.cons_of
                refine iteF' (decide_eq_false (by simp only [List.length_cons]; omega)) ?_
                have e2 : stopD (d1 :: d2 :: d3 :: dr') = false := by
                  unfold stopD
                  split
                  · rename_i ee; cases ee
                  · rfl
                rw [e2] at q
                exact q _ t2
            · refine iteF' (decide_eq_false hz) ?_
              have e : pieceD (.tuple (.str z :: d1 :: dr)) = ((decide (z = "gap") || decide (z = "glass")) && dr.isEmpty) := by
                show ((d1 :: dr).all ratD && (if z = "stop" then _ else _)) = _
                rw [hall, if_neg hz]; rfl
              rw [e] at q
              refine ⟨_, rfl, a, _, _, _, rfl, rfl, ha.keep t2, atI0, (by show 2 ≤ sizeLine; decide), fun p3 hp3 => ?_⟩
              have u3 := same_new hp3 (.tup [.str "gap", .str "glass"])
              have t3 := t2.trans u3
              refine ⟨p3, _, rfl, .inr (SqT.of upd_same), rfl, rfl, _, rfl, ?_⟩
              have ein : (if false = true then !inV (.str z) [.str "gap", .str "glass"] else inV (.str z) [.str "gap", .str "glass"]) = (decide (z = "gap") || decide (z = "glass")) := in_words z
              cases hin : (decide (z = "gap") || decide (z = "glass")) with
              | false =>
                rw [hin] at q
                exact iteF' (ein.trans hin) (q _ t3)
              | true =>
                rw [hin, Bool.true_and] at q
                refine iteT' (ein.trans hin) ?_
                refine ⟨_, rfl, a, _, rfl, .inr (ha.keep t3), rfl, ?_⟩
                have el2 : decide (V.int (((V.str z :: x1 :: xr).length : Nat) : Int) = V.int 2) = dr.isEmpty := by
                  rw [decI]
                  have := hr'.len
                  cases dr with
                  | nil =>
                    have : xr = [] := List.eq_nil_of_length_eq_zero (by simpa using this)
                    subst this; rfl
                  | cons d2 dr2 =>
                    simp only [List.length_cons] at this ⊢
                    exact decide_eq_false (by omega)
                show Q (.bl (decide (V.int (((V.str z :: x1 :: xr).length : Nat) : Int) = V.int 2))) _
                rw [el2]
                exact q _ t3
theorem x_look_at (T : Txt K mg ad) : CalB P w K mg base true 4 "look_at" ["bench"] (spLookN K ad.NoBench) := by
  have C_is_piece := x_is_piece (P := P) (w := w) (base := base) T
  have M_NoBench := k_NoBench (P := P) (w := w) (base := base) T
  refine T.t_look_at.calB sc_look_at (fun _ _ _ _ _ _ => by1 fun _ => rfl) (fun vs H Q E h => ?_) (fun f cdv A outer s H vs Q E hr h => ?_)
  · obtain ⟨_, _, _, rfl, _⟩ := h; rfl
  obtain ⟨v, d, o0, rfl, hv, rb, q⟩ := h
  refine ⟨_, (pss_cons (ps_if (PW.pt (pw_or (pt_not (pt_val (pe_callB call_isiD rfl T.isinstance bt_isinstance (pa_name (pv 0) (pa_name (pe_bltn (v := .ty "list") rfl T.list bt_list rfl) pa_nil))))) (pw_or1 (pt_cmpR op_gt (pe_callB call_len_seq rfl T.len bt_len (pa_name (pv 0) pa_nil)) (pe_glob (v := .int 60) rfl T.ex.m_MOST_PIECES ⟨_, rfl⟩) (nomark _))))) (pss_one (ps_raiseI bodyB rfl M_NoBench (hr.mono (by decide)) (pa_const pe_non pa_nil))) pss_nil) (pss_one (ps_for PassesOwn.leaving rfl (pi_enum rfl T.enumerate (pa_name (pv 0) pa_nil)) (pg_tup (n := 2) rfl (pgs_cons (pg_name (i := 1) sc_look_at.nd rfl (by first | exact Or.inl rfl | exact Or.inr rfl)) (pgs_cons (pg_name (i := 2) sc_look_at.nd rfl (by first | exact Or.inl rfl | exact Or.inr rfl)) pgs_nil))) (pss_one (ps_if (pt_not (pt_val (pe_cB C_is_piece (hr.mono (by decide)) pass01 (pa_name (pv 2) pa_nil)))) (pss_one (ps_raiseI bodyB rfl M_NoBench (hr.mono (by decide)) (pa_name (pv 1) pa_nil))) pss_nil))))), ?_⟩
  refine ⟨_, rfl, _, _, _, _, rfl, hv, isLst_b _, _, rfl, ?_⟩
  rcases rb with ⟨no | ⟨ds, rfl, hl⟩, rfl⟩ | ⟨ds, i0, rfl, bad, rfl⟩
  · rw [no]
    exact iteT (iteT ⟨_, rfl, fun dx hn => q _ dx (same_new hn _) upd_same⟩)
  · obtain ⟨a, xs, rfl, ha, hxs⟩ := DV.lst_of hv
    have hlen := hxs.len
    refine iteF ?_
    refine ⟨_, rfl, a, _, rfl, .inl ha, _, _, rfl, rfl, _, rfl, iteT' (decide_eq_true (by omega)) ?_⟩
    exact ⟨_, rfl, fun dx hn => q _ dx (same_new hn _) upd_same⟩
  obtain ⟨a, xs, rfl, ha, hxs⟩ := DV.lst_of hv
  have hlen := hxs.len
  obtain ⟨short, sm, before, db, hdb, nb⟩ := bad
  have hi0 := lt_of_get hdb
  refine iteF ?_
  refine ⟨_, rfl, a, _, rfl, .inl ha, _, _, rfl, rfl, _, rfl, iteF' (decide_eq_false (by omega)) ?_⟩
  refine ⟨_, rfl, a, rfl, ⟨_, ha⟩, ?_⟩
  refine for_enum (K := K) (a := a) (xs := xs) (fun i σ H' => ∃ c1 c2, σ = [some (.ref a), c1, c2] ∧ Same H H' ∧ i ≤ i0) ⟨_, _, rfl, Same.refl _, Nat.zero_le _⟩ ?_ ?_ ?_
  · rintro i σ H' hi ⟨c1, c2, rfl, s1, _⟩
    exact ha.keep s1
  · rintro i x σ H' p hi ⟨c1, c2, rfl, s1, le⟩ hp
    obtain ⟨d, hd, hx⟩ := hxs.get hi
    have s2 := s1.trans (same_new hp (.tup [.int i, x]))
    refine ⟨p, _, rfl, SqT.of upd_same, rfl, _, _, rfl, _, _, rfl, rfl, ?_⟩
    refine ⟨_, rfl, _, _, rfl, hx.keep s2, sm _ (List.mem_of_getElem? hd), fun H3 s3 => ⟨_, rfl, ?_⟩⟩
    rcases Nat.lt_or_eq_of_le le with lt | rfl
    · rw [before i lt d hd]
      exact iteF ⟨_, _, rfl, s2.trans s3, lt⟩
    · rw [hdb] at hd
      cases hd
      rw [nb]
      exact iteT ⟨_, rfl, _, rfl, fun dx hn => q _ dx ((s2.trans s3).trans (same_new hn _)) upd_same⟩
  · rintro σ H' ⟨c1, c2, rfl, s1, le⟩
    omega
end
end K42
namespace K42
open PySem L2 Lib Fr Op
seal PE PT PW PA PS PSs PG PGs PI PO PIfs
section
variable {P : Program} {w : World} {K : PySem.W.Frag} {mg : Str → Option Value} {base : Heap} {ad : Adr} {c : Bool}
theorem x_is_stretch (T : Txt K mg ad) : CalB P w K mg base true 3 "is_stretch" ["first", "last"] (spStrX K) := by
  have C_is_less := c_is_less (P := P) (w := w) (base := base) T
  have C_is_ratio := c_is_ratio_any (P := P) (w := w) (base := base) T
  refine T.t_is_stretch.calN sc_is_stretch (fun _ _ _ _ _ _ => by2 fun _ _ => rfl) (fun vs H Q E h => ?_) (fun f cdv A outer s H vs Q E hr h => ?_)
  · obtain ⟨_, _, _, _, _, rfl, _⟩ := h; rfl
  obtain ⟨x, y, d, e, b, rfl, hx, hy, sb, q⟩ := h
  refine ⟨_, (pss_one (ps_ret (pe_and (pe_cB C_is_ratio (hr.mono (by decide)) pass01 (pa_name (pv 0) pa_nil)) (pe_and (pe_cB C_is_ratio (hr.mono (by decide)) pass01 (pa_name (pv 1) pa_nil)) (pe_one (pe_not (pe_cB C_is_less (hr.mono (by decide)) pass01 (pa_name (pv 1) (pa_name (pv 0) pa_nil))))))))), ?_⟩
  refine ⟨_, rfl, x, d, rfl, hx, _, rfl, ?_⟩
  cases sb with
  | @yes p q' sp sq h =>
    rw [rat_fr]
    refine iteT ?_
    refine ⟨_, rfl, y, _, rfl, hy, _, rfl, ?_⟩
    rw [rat_fr]
    refine iteT ?_
    refine ⟨_, rfl, _, rfl, _, _, .cons hy (.cons hx .nil), ⟨_, _, rfl, sq, sp, rfl⟩, fun v1 H1 s1 hv1 => ?_⟩
    obtain rfl := hv1.bl_of
    rw [decide_eq_false (Rat.not_lt.mpr h)]
    exact ⟨_, rfl, q _ s1⟩
  | @turned p q' sp sq h =>
    rw [rat_fr]
    refine iteT ?_
    refine ⟨_, rfl, y, _, rfl, hy, _, rfl, ?_⟩
    rw [rat_fr]
    refine iteT ?_
    refine ⟨_, rfl, _, rfl, _, _, .cons hy (.cons hx .nil), ⟨_, _, rfl, sq, sp, rfl⟩, fun v1 H1 s1 hv1 => ?_⟩
    obtain rfl := hv1.bl_of
    rw [decide_eq_true h]
    exact ⟨_, rfl, q _ s1⟩
  | one h =>
    rw [h]
    exact iteF (q _ (Same.refl _))
  | two h =>
    rw [rat_fr]
    refine iteT ?_
    refine ⟨_, rfl, y, _, rfl, hy, _, rfl, ?_⟩
    rw [h]
    exact iteF (q _ (Same.refl _))
theorem x_is_box (T : Txt K mg ad) : CalB P w K mg base true 4 "is_box" ["thing"] (spIsBoxX K) := by
  have C_is_stretch := x_is_stretch (P := P) (w := w) (base := base) T
  refine T.t_is_box.calN sc_is_box (fun _ _ _ _ _ _ => by1 fun _ => rfl) (fun vs H Q E h => ?_) (fun f cdv A outer s H vs Q E hr h => ?_)
  · obtain ⟨_, _, rfl, _⟩ := h; rfl
  obtain ⟨x, d, rfl, hx, bad, q⟩ := h
  refine ⟨_, (pss_cons (ps_if (PW.pt (pw_or (pt_not (pt_val (pe_callB call_isiD rfl T.isinstance bt_isinstance (pa_name (pv 0) (pa_name (pe_bltn (v := .ty "tuple") rfl T.tuple bt_tuple rfl) pa_nil))))) (pw_or1 (pt_cmpR op_ne (pe_callB call_len_seq rfl T.len bt_len (pa_name (pv 0) pa_nil)) pe_int (nomark _))))) (pss_one (ps_ret pe_bl)) pss_nil) (pss_one (ps_ret (pe_and (pe_cB C_is_stretch (hr.mono (by decide)) pass01 (pa_sub (pe_ix ix_tup (pv 0) pe_int (fun _ _ => rfl)) (pa_sub (pe_ix ix_tup (pv 0) pe_int (fun _ _ => rfl)) pa_nil))) (pe_one (pe_cB C_is_stretch (hr.mono (by decide)) pass01 (pa_sub (pe_ix ix_tup (pv 0) pe_int (fun _ _ => rfl)) (pa_sub (pe_ix ix_tup (pv 0) pe_int (fun _ _ => rfl)) pa_nil)))))))), ?_⟩
  refine ⟨_, rfl, _, _, _, _, rfl, hx, isTup_b d, _, rfl, ?_⟩
  cases bad with
  | kind h =>
    rw [h]
    exact iteT (iteT (q _ (Same.refl _)))
  | @many ds h =>
    obtain ⟨a, xs, rfl, ha, hds⟩ := hx.tup_of
    have hl := hds.len
    refine iteF ?_
    refine ⟨_, rfl, a, _, rfl, .inr ha, rfl, _, rfl, iteT' ?_ (q _ (Same.refl _))⟩
    show (!decide (V.int ((xs.length : Nat) : Int) = V.int 4)) = true
    rw [decI, decide_eq_false (by omega)]
    rfl
  | @fst d0 d1 d2 d3 h =>
    obtain ⟨a, x0, x1, x2, x3, rfl, ha, h0, h1, h2, h3⟩ := DV.t4 hx
    refine iteF ?_
    refine ⟨_, rfl, a, _, rfl, .inr ha, rfl, _, rfl, iteF' rfl ?_⟩
    refine ⟨_, rfl, a, _, _, _, rfl, rfl, ha, rfl, _, rfl, a, _, _, _, rfl, rfl, ha, rfl, x0, x1, _, _, _, rfl, h0, h1, h, fun H1 s1 => ?_⟩
    exact ⟨_, rfl, iteF (q _ s1)⟩
  | @snd d0 d1 d2 d3 h h' =>
    obtain ⟨a, x0, x1, x2, x3, rfl, ha, h0, h1, h2, h3⟩ := DV.t4 hx
    refine iteF ?_
    refine ⟨_, rfl, a, _, rfl, .inr ha, rfl, _, rfl, iteF' rfl ?_⟩
    refine ⟨_, rfl, a, _, _, _, rfl, rfl, ha, rfl, _, rfl, a, _, _, _, rfl, rfl, ha, rfl, x0, x1, _, _, _, rfl, h0, h1, h, fun H1 s1 => ?_⟩
    refine ⟨_, rfl, iteT ?_⟩
    have ha1 := ha.keep s1
    exact ⟨_, rfl, a, _, _, _, rfl, rfl, ha1, rfl, _, rfl, a, _, _, _, rfl, rfl, ha1, rfl, x2, x3, _, _, _, rfl, h2.keep s1, h3.keep s1, h', fun H2 s2 => q _ (s1.trans s2)⟩
theorem x_look_at_box (T : Txt K mg ad) : CalB P w K mg base true 5 "look_at_box" ["box"] (spLookBoxX K ad.NoBox) := by
  have C_is_box := x_is_box (P := P) (w := w) (base := base) T
  refine T.t_look_at_box.calB sc_look_at_box (fun _ _ _ _ _ _ => by1 fun _ => rfl) (fun vs H Q E h => ?_) (fun f cdv A outer s H vs Q E hr h => ?_)
  · obtain ⟨_, _, rfl, _⟩ := h; rfl
  obtain ⟨x, d, rfl, hx, bad, q⟩ := h
  refine ⟨_, (pss_one (ps_if (pt_not (pt_val (pe_cB C_is_box (hr.mono (by decide)) pass01 (pa_name (pv 0) pa_nil)))) (pss_one (ps_raise bodyB rfl T.ex.c_NoBox (pa_const pe_str pa_nil))) pss_nil)), ?_⟩
  exact ⟨_, rfl, x, d, rfl, hx, bad, fun H1 s1 => ⟨_, rfl, iteT ⟨(by show 1 ≤ sizeLine; decide), q _ s1⟩⟩⟩
theorem x_limits_of (T : Txt K mg ad) : CalB P w K mg base true 5 "limits_of" ["bench"] (spLookN K ad.NoBench) := by
  have C_look_at := x_look_at (P := P) (w := w) (base := base) T
  refine T.t_limits_of.calB sc_limits_of (fun _ _ _ _ _ _ => by1 fun _ => rfl) (fun vs H Q E h => ?_) (fun f cdv A outer s H vs Q E hr h => ?_)
  · obtain ⟨_, _, _, rfl, _⟩ := h; rfl
  obtain ⟨v, d, o0, rfl, hv, bad, q⟩ := h
  exact ⟨_, (pss_cons (ps_expr (pe_cB C_look_at (hr.mono (by decide)) (passes1 bodyB) (pa_name (pv 0) pa_nil))) pss_never), ⟨_, rfl, v, d, o0, rfl, hv, bad, q⟩⟩
theorem x_field_of (T : Txt K mg ad) : CalB P w K mg base true 6 "field_of" ["bench", "box"] (spFieldX K ad.NoBench ad.NoBox) := by
  refine T.t_field_of.calB sc_field_of (fun _ _ _ _ _ _ => by2 fun _ _ => rfl) (fun vs H Q E h => ?_) (fun f cdv A outer s H vs Q E hr h => ?_)
  · obtain ⟨_, _, rfl, _⟩ := h; rfl
  obtain ⟨v, u, rfl, h⟩ := h
  rcases h with ⟨d, o, hv, bad, q⟩ | ⟨ps, e, hv, hu, g, h8, bad, q⟩
  · have C_limits_of := x_limits_of (P := P) (w := w) (base := base) T
    exact ⟨_, (pss_cons (ps_set (i := 2) sc_field_of.nd rfl (Or.inl rfl) (pe_cB C_limits_of (hr.mono (by decide)) (passes1 bodyB) (pa_name (pv 0) pa_nil))) pss_never), ⟨_, rfl, v, d, o, rfl, hv, bad, q⟩⟩
  · have C_limits_of := c_limits_of (P := P) (w := w) (base := base) T
    have C_look_at_box := x_look_at_box (P := P) (w := w) (base := base) T
    have pl : ps.length * (15 + 1) ≤ 8 * 16 := Nat.mul_le_mul h8 (Nat.le_refl _)
    refine ⟨_, (pss_cons (ps_set (i := 2) sc_field_of.nd rfl (Or.inl rfl) (pe_cB C_limits_of (hr.mono (by decide)) pass01 (pa_name (pv 0) pa_nil))) (pss_cons (ps_expr (pe_cB C_look_at_box (hr.mono (by decide)) (passes1 bodyB) (pa_name (pv 1) pa_nil))) pss_never)), ?_⟩
    refine ⟨_, rfl, v, ps, 15, rfl, hv, g, by omega, fun l rs H1 s1 nl hl hrs => ?_⟩
    exact ⟨_, rfl, u, e, rfl, hu.keep s1, bad, fun H2 s2 => q _ (s1.trans s2)⟩
end
end K42
namespace K42
open PySem L2 Lib Fr Op
seal PE PT PW PA PS PSs PG PGs PI PO PIfs
section
variable {P : Program} {w : World} {K : PySem.W.Frag} {mg : Str → Option Value} {base : Heap} {ad : Adr} {c : Bool}
theorem isi_at (o : Option Nat) : bsub (tyD (optD o)) "bool" = some false := by
  cases o with
  | none => exact isBl_b .none
  | some i => exact isBl_b (.int _)
theorem tail_bench (T : Txt K mg ad) {f : Addr} {cdv : Value} {A : Around} {outer : List Env} {s : Shared} {H : Hp} {E : XK} (hr : RoomB true 6 (cxB true P w K mg base ["_law_function", "_law_bench_here", "_law_box_here", "_law_due", "_law_told", "e", "_law_truths"] "_law_refused" (defScope s__law_refused) f cdv A outer s H E).nox.A) : ∃ tr, PSs (cxB true P w K mg base ["_law_function", "_law_bench_here", "_law_box_here", "_law_due", "_law_told", "e", "_law_truths"] "_law_refused" (defScope s__law_refused) f cdv A outer s H E).nox ((defBody s__law_refused).drop 2) tr ∧
    (∀ (fn bv xv : V) (c5 c6 : Option V) (a t dx : Addr) (o : Option Nat) (H2 : Hp) (D : Ends), H2 a = some (xC a ad.NoBench (some dx)) → H2 dx = some (.xd [("at", atV o)]) → SqT K H2 t [atV o] → (∀ H', Same H2 H' → D.rt (.bl true) H') → tr D [some fn, some bv, some xv, some (.ref t), some (.ref a), c5, c6] H2) ∧
    (∀ (fn bv xv : V) (c5 c6 : Option V) (a : Addr) (H2 : Hp) (D : Ends), H2 a = some (xC a ad.NoBox none) → (∀ H', Same H2 H' → D.rt (.bl true) H') → tr D [some fn, some bv, some xv, some (.str "box"), some (.ref a), c5, c6] H2) := by
  have X := T.ex
  have ek := X.e_NoBench
  have ew := X.e_NoBox
  obtain ⟨fI, fd, Fn, O⟩ := X.j_NoBench.ex
  refine ⟨_, (pss_cons (ps_set (i := 6) sc__law_refused.nd rfl (Or.inl rfl) (pe_lst (pa_call (pe_callB (call_isiD1K (K := K)) rfl T.isinstance bt_isinstance (pa_name (pv 4) (pa_name (pe_glob (v := .ref ad.NoBench) rfl T.ex.m_NoBench rfl) pa_nil))) (pa_call (pe_callB (call_isiD1K (K := K)) rfl T.isinstance bt_isinstance (pa_name (pv 4) (pa_name (pe_glob (v := .ref ad.NoBox) rfl T.ex.m_NoBox rfl) pa_nil))) (pa_call (pe_callB (call_isiD1K (K := K)) rfl T.isinstance bt_isinstance (pa_name (pv 4) (pa_name (pe_bltn (v := .ty "ValueError") rfl T.ValueError bt_ValueError rfl) pa_nil))) pa_nil))))) (pss_cons (ps_if (pt_val (pe_callB (call_isiDTK (K := K)) rfl T.isinstance bt_isinstance (pa_name (pv 4) (pa_tuple (pe_tup (pa_name (pe_glob (v := .ref ad.NoNumber) rfl T.ex.m_NoNumber rfl) (pa_name (pe_glob (v := .ref ad.NoRow) rfl T.ex.m_NoRow rfl) (pa_name (pe_glob (v := .ref ad.NoStock) rfl T.ex.m_NoStock rfl) (pa_name (pe_glob (v := .ref ad.NoTable) rfl T.ex.m_NoTable rfl) (pa_name (pe_glob (v := .ref ad.NoText) rfl T.ex.m_NoText rfl) (pa_name (pe_glob (v := .ref ad.NoWish) rfl T.ex.m_NoWish rfl) (pa_name (pe_glob (v := .ref ad.Unknown) rfl T.ex.m_Unknown rfl) pa_nil)))))))) pa_nil)))) (pss_one (ps_ret pe_bl)) pss_nil) (pss_cons (ps_if (pt_cmpR (op_eqD hr.units) (pv 3) pe_str (nomark _)) (pss_one (ps_ret (pe_cmpR (op_eqD hr.units) (pv 6) (pe_lst (pa_const pe_bl (pa_const pe_bl (pa_const pe_bl pa_nil)))) (nomark _)))) pss_nil) (pss_one (ps_ret (pe_and (pe_cmpR (op_eqD hr.units) (pv 6) (pe_lst (pa_const pe_bl (pa_const pe_bl (pa_const pe_bl pa_nil)))) (nomark _)) (pe_and (pe_cmpR (op_eqD hr.units) (pe_xatK (K := K) (pv 4)) (pe_ix ix_tup (pv 3) pe_int (fun _ _ => rfl)) (nomark _)) (pe_one (pe_not (pe_callB call_isiD rfl T.isinstance bt_isinstance (pa_attr (pe_xatK (K := K) (pv 4)) (pa_name (pe_bltn (v := .ty "bool") rfl T.bool bt_bool rfl) pa_nil)))))))))))), ?_, ?_⟩
  · intro fn bv xv c5 c6 a t dx o H2 D hc hdx ht q
    refine ⟨_, rfl, a, _, _, _, _, _, rfl, hc, ek, rfl, X.k_NoBench_NoBench, _, rfl, a, _, _, _, _, _, rfl, hc, ek, rfl, X.k_NoBench_NoBox, _, rfl, a, _, _, _, _, _, rfl, hc, ek, rfl, X.k_NoBench_ValueError, (by show 3 ≤ sizeLine; decide), fun l hl => ?_⟩
    have u1 := same_new hl (.lst [.bl true, .bl false, .bl true])
    have l1 : DV K (upd H2 l (.lst [.bl true, .bl false, .bl true])) (.ref l) (.list [.bool true, .bool false, .bool true]) := .lst (SqL.of upd_same) (.cons (.bl _) (.cons (.bl _) (.cons (.bl _) .nil)))
    have hc := u1 _ _ hc
    have hdx := u1 _ _ hdx
    have ht := ht.keep u1
    generalize upd H2 l (.lst [.bl true, .bl false, .bl true]) = G at u1 l1 hc hdx ht ⊢
    refine ⟨_, rfl, (by show 7 ≤ sizeLine; decide), fun p hp => ?_⟩
    have u2 := same_new hp (.tup [.ref ad.NoNumber, .ref ad.NoRow, .ref ad.NoStock, .ref ad.NoTable, .ref ad.NoText, .ref ad.NoWish, .ref ad.Unknown])
    refine ⟨a, _, p, _, [ad.NoNumber, ad.NoRow, ad.NoStock, ad.NoTable, ad.NoText, ad.NoWish, ad.Unknown], rfl, u2 _ _ hc, ek, SqT.of upd_same, (fun c hc => ?_), _, rfl, ?_⟩
    · simp only [List.mem_cons, List.not_mem_nil, or_false] at hc
      rcases hc with rfl | rfl | rfl | rfl | rfl | rfl | rfl
      · exact X.k_NoBench_NoNumber
      · exact X.k_NoBench_NoRow
      · exact X.k_NoBench_NoStock
      · exact X.k_NoBench_NoTable
      · exact X.k_NoBench_NoText
      · exact X.k_NoBench_NoWish
      · exact X.k_NoBench_Unknown
    have hc := u2 _ _ hc
    have hdx := u2 _ _ hdx
    have ht := ht.keep u2
    have l1 := l1.keep u2
    have w2 := u1.trans u2
    generalize upd G p (.tup [.ref ad.NoNumber, .ref ad.NoRow, .ref ad.NoStock, .ref ad.NoTable, .ref ad.NoText, .ref ad.NoWish, .ref ad.Unknown]) = G2 at hc hdx ht l1 w2 ⊢
    refine iteF ?_
    have dt : DV K G2 (.ref t) (.tuple [optD o]) := .tup ht (.cons (dv_atV o) .nil)
    refine ⟨_, rfl, _, _, dt, .str _, (flat_tup (n := 0) (fun d hd => by rw [List.mem_singleton.mp hd]; exact flat_opt o)).sh (by decide), (by decide +kernel), _, rfl, iteF ?_⟩
    refine ⟨_, rfl, (by show 3 ≤ sizeLine; decide), fun p3 hp3 => ?_⟩
    have u3 := same_new hp3 (.lst [.bl true, .bl false, .bl true])
    have l3 : DV K (upd G2 p3 (.lst [.bl true, .bl false, .bl true])) (.ref p3) (.list [.bool true, .bool false, .bool true]) := .lst (SqL.of upd_same) (.cons (.bl _) (.cons (.bl _) (.cons (.bl _) .nil)))
    have hc := u3 _ _ hc
    have hdx := u3 _ _ hdx
    have ht := ht.keep u3
    have l1 := l1.keep u3
    have w3 := w2.trans u3
    generalize upd G2 p3 (.lst [.bl true, .bl false, .bl true]) = G3 at l3 hc hdx ht l1 w3 ⊢
    refine eq_same l1 l3 (⟨by decide +kernel, by decide⟩ : Flat 1 _) ⟨_, rfl, iteT ?_⟩
    refine ⟨_, rfl, a, _, dx, _, _, rfl, hc, hdx, ek, O.hd, O.na, rfl, ?_⟩
    refine ⟨_, rfl, t, _, _, atV o, rfl, rfl, ht, rfl, ?_⟩
    refine eq_same (dv_at o) (dv_at o) (flat_opt o) ⟨_, rfl, iteT ?_⟩
    refine ⟨_, rfl, a, _, dx, _, _, rfl, hc, hdx, ek, O.hd, O.na, rfl, ?_⟩
    exact ⟨_, _, _, _, rfl, dv_at o, isi_at o, _, rfl, q _ w3⟩
  · intro fn bv xv c5 c6 a H2 D hc q
    refine ⟨_, rfl, a, _, _, _, _, _, rfl, hc, ew, rfl, X.k_NoBox_NoBench, _, rfl, a, _, _, _, _, _, rfl, hc, ew, rfl, X.k_NoBox_NoBox, _, rfl, a, _, _, _, _, _, rfl, hc, ew, rfl, X.k_NoBox_ValueError, (by show 3 ≤ sizeLine; decide), fun l hl => ?_⟩
    have u1 := same_new hl (.lst [.bl false, .bl true, .bl true])
    have l1 : DV K (upd H2 l (.lst [.bl false, .bl true, .bl true])) (.ref l) (.list [.bool false, .bool true, .bool true]) := .lst (SqL.of upd_same) (.cons (.bl _) (.cons (.bl _) (.cons (.bl _) .nil)))
    have hc := u1 _ _ hc
    generalize upd H2 l (.lst [.bl false, .bl true, .bl true]) = G at u1 l1 hc ⊢
    refine ⟨_, rfl, (by show 7 ≤ sizeLine; decide), fun p hp => ?_⟩
    have u2 := same_new hp (.tup [.ref ad.NoNumber, .ref ad.NoRow, .ref ad.NoStock, .ref ad.NoTable, .ref ad.NoText, .ref ad.NoWish, .ref ad.Unknown])
    refine ⟨a, _, p, _, [ad.NoNumber, ad.NoRow, ad.NoStock, ad.NoTable, ad.NoText, ad.NoWish, ad.Unknown], rfl, u2 _ _ hc, ew, SqT.of upd_same, (fun c hc => ?_), _, rfl, ?_⟩
    · simp only [List.mem_cons, List.not_mem_nil, or_false] at hc
      rcases hc with rfl | rfl | rfl | rfl | rfl | rfl | rfl
      · exact X.k_NoBox_NoNumber
      · exact X.k_NoBox_NoRow
      · exact X.k_NoBox_NoStock
      · exact X.k_NoBox_NoTable
      · exact X.k_NoBox_NoText
      · exact X.k_NoBox_NoWish
      · exact X.k_NoBox_Unknown
    have l1 := l1.keep u2
    have w2 := u1.trans u2
    generalize upd G p (.tup [.ref ad.NoNumber, .ref ad.NoRow, .ref ad.NoStock, .ref ad.NoTable, .ref ad.NoText, .ref ad.NoWish, .ref ad.Unknown]) = G2 at l1 w2 ⊢
    refine iteF ?_
    refine ⟨_, rfl, _, _, .str _, .str _, (by decide +kernel), (by decide +kernel), _, rfl, iteT' (by decide +kernel) ?_⟩
    refine ⟨_, rfl, (by show 3 ≤ sizeLine; decide), fun p3 hp3 => ?_⟩
    have u3 := same_new hp3 (.lst [.bl false, .bl true, .bl true])
    have l3 : DV K (upd G2 p3 (.lst [.bl false, .bl true, .bl true])) (.ref p3) (.list [.bool false, .bool true, .bool true]) := .lst (SqL.of upd_same) (.cons (.bl _) (.cons (.bl _) (.cons (.bl _) .nil)))
    have l1 := l1.keep u3
    have w3 := w2.trans u3
    generalize upd G2 p3 (.lst [.bl false, .bl true, .bl true]) = G3 at l3 l1 w3 ⊢
    exact eq_same l1 l3 (⟨by decide +kernel, by decide⟩ : Flat 1 _) (q _ w3)
theorem c__law_refused (T : Txt K mg ad) : CalB P w K mg base true 7 "_law_refused" ["_law_function", "_law_bench_here", "_law_box_here", "_law_due"] (spRef42 K) := by
  have C_limits_of := x_limits_of (P := P) (w := w) (base := base) T
  have C_field_of := x_field_of (P := P) (w := w) (base := base) T
  refine T.t__law_refused.calN sc__law_refused (fun _ _ _ _ _ _ => by4 fun _ _ _ _ => rfl) (fun vs H Q E h => ?_) (fun f cdv A outer s H vs Q E hr h => ?_)
  · obtain ⟨_, _, _, _, rfl, _⟩ := h; rfl
  obtain ⟨fn, bv, xv, dv, rfl, h, q⟩ := h
  have X := T.ex
  obtain ⟨tR, hR, kR, kS⟩ := tail_bench (P := P) (w := w) (base := base) (f := f) (cdv := cdv) (A := A) (outer := outer) (s := s) (H := H) (E := E) T hr
  refine ⟨_, (pss_cons (ps_set (i := 4) sc__law_refused.nd rfl (Or.inl rfl) pe_non) (pss_cons (ps_tryGD (i := 5) (ptb_if (pt_cmpR op_eq (pv 0) pe_str (nomark _)) (ptb_call C_limits_of (hr.mono (by decide)) (pa_name (pv 1) pa_nil)) (ptb_call C_field_of (hr.mono (by decide)) (pa_name (pv 1) (pa_name (pv 2) pa_nil)))) rfl rfl T.ex.m_BenchError (fun _ => (pss_one (ps_set (i := 4) sc__law_refused.nd rfl (Or.inl rfl) (pv 5)))) sc__law_refused.nd rfl rfl) hR)), ?_⟩
  rcases h with ⟨d, o, t, hf, hd, ref, rfl, ht⟩ | ⟨ps, e, rfl, hb, hx, g, h8, bad, rfl⟩
  · have key : ∀ (H1 : Hp) (dx : Addr), Same H H1 → H1 dx = some (.xd [("at", atV o)]) → ∀ a, H1 a = none → Same H (upd H1 a (xC a ad.NoBench (some dx))) ∧ (upd H1 a (xC a ad.NoBench (some dx))) a = some (xC a ad.NoBench (some dx)) ∧ (upd H1 a (xC a ad.NoBench (some dx))) dx = some (.xd [("at", atV o)]) := fun H1 dx s1 hx a ha => by
      have ua := same_new ha (xC a ad.NoBench (some dx))
      exact ⟨s1.trans ua, upd_same, ua _ _ hx⟩
    rcases hf with rfl | rfl
    · refine ⟨_, rfl, rfl, _, rfl, iteT' (by decide) ?_⟩
      refine ⟨_, rfl, bv, d, o, rfl, hd, ref, fun H1 dx s1 hx => ?_⟩
      refine ⟨ad.NoBench, rfl, X.x_NoBench_BenchError, fun a ha => ?_⟩
      obtain ⟨w1, hc, hdx⟩ := key H1 dx s1 hx a ha
      refine ⟨_, rfl, ?_⟩
      exact kR _ _ _ _ _ a t dx o _ _ hc hdx (ht.keep w1) fun H' s' => q _ (w1.trans s')
    · refine ⟨_, rfl, rfl, _, rfl, iteF' (by decide) ?_⟩
      refine ⟨_, rfl, _, rfl, bv, xv, rfl, .inl ⟨d, o, hd, ref, fun H1 dx s1 hx => ?_⟩⟩
      refine ⟨ad.NoBench, rfl, X.x_NoBench_BenchError, fun a ha => ?_⟩
      obtain ⟨w1, hc, hdx⟩ := key H1 dx s1 hx a ha
      refine ⟨_, rfl, ?_⟩
      exact kR _ _ _ _ _ a t dx o _ _ hc hdx (ht.keep w1) fun H' s' => q _ (w1.trans s')
  · refine ⟨_, rfl, rfl, _, rfl, iteF' (by decide) ?_⟩
    refine ⟨_, rfl, _, rfl, bv, xv, rfl, .inr ⟨ps, e, hb, hx, g, h8, bad, fun H1 s1 => ?_⟩⟩
    refine ⟨ad.NoBox, rfl, X.x_NoBox_BenchError, fun a ha => ?_⟩
    have w1 := s1.trans (same_new ha (xC a ad.NoBox none))
    refine ⟨_, rfl, ?_⟩
    exact kS _ _ _ _ _ a _ _ upd_same fun H' s' => q _ (w1.trans s')
end
end K42
namespace K42
open PySem L2 Lib Fr Op
seal PE PT PW PA PS PSs PG PGs PI PO PIfs
section
variable {P : Program} {w : World} {K : PySem.W.Frag} {mg : Str → Option Value} {base : Heap} {ad : Adr} {c : Bool}
theorem div_p {a b : Int} (ha : 0 < a) (hb : 0 < b) : 0 < Rat.divInt a b := by
  have h := div_nn (Int.le_of_lt ha) (Int.le_of_lt hb)
  have h0 : ((0 : Int) : Rat) < (a : Rat) := Rat.intCast_lt_intCast.mpr ha
  have h1 : ((0 : Int) : Rat) < (b : Rat) := Rat.intCast_lt_intCast.mpr hb
  rw [Rat.divInt_eq_div] at h ⊢
  have e : (a : Rat) / (b : Rat) * (b : Rat) = a := by grind
  have n : (a : Rat) / (b : Rat) ≠ 0 := fun e' => by
    rw [e'] at e
    grind
  grind
theorem c__law_wrong (T : Txt K mg ad) : CalB P w K mg base true 5 "_law_wrong" ["_law_box_here", "_law_cell"] (spWrongB K) := by
  have C_ratio_of := c_ratio_of (P := P) (w := w) (base := base) T
  have C_sum_of := c_sum_of (P := P) (w := w) (base := base) T
  refine T.t__law_wrong.calN sc__law_wrong (fun _ _ _ _ _ _ => by2 fun _ _ => rfl) (fun vs H Q E h => ?_) (fun f cdv A outer s H0 vs Q E hr h => ?_)
  · obtain ⟨_, _, _, rfl, _⟩ := h; rfl
  obtain ⟨v, x, z, rfl, hv, xo, xb, q⟩ := h
  obtain ⟨pb, va, vb, vc, vd, rfl, hpb, ha, hb, hc, hd⟩ := DV.t4b hv
  refine ⟨_, (pss_cons (ps_asg (pv 0) (pg_tup (n := 4) rfl (pgs_cons (pg_name (i := 2) sc__law_wrong.nd rfl (by first | exact Or.inl rfl | exact Or.inr rfl)) (pgs_cons (pg_name (i := 3) sc__law_wrong.nd rfl (by first | exact Or.inl rfl | exact Or.inr rfl)) (pgs_cons (pg_name (i := 4) sc__law_wrong.nd rfl (by first | exact Or.inl rfl | exact Or.inr rfl)) (pgs_cons (pg_name (i := 5) sc__law_wrong.nd rfl (by first | exact Or.inl rfl | exact Or.inr rfl)) pgs_nil)))))) (pss_cons (ps_set (i := 6) sc__law_wrong.nd rfl (Or.inl rfl) (pe_ix ix_list (pe_lst (pa_const pe_int (pa_const pe_non (pa_const pe_bl (pa_tuple (pe_tup (pa_const pe_int (pa_const pe_int pa_nil))) (pa_tuple (pe_tup (pa_const pe_int (pa_const pe_int pa_nil))) (pa_tuple (pe_tup (pa_const pe_int (pa_un (pe_un un_neg pe_int) pa_nil))) (pa_list (pe_lst (pa_const pe_int (pa_const pe_int pa_nil))) pa_nil)))))))) (pe_op op_mod (pe_op op_fdiv (pv 1) pe_int) pe_int) (fun _ _ => rfl))) (pss_cons (ps_set (i := 7) sc__law_wrong.nd rfl (Or.inl rfl) (pe_cB C_ratio_of (hr.mono (by decide)) pass01 (pa_bin (pe_op op_add pe_int (pe_op op_mod (pe_op op_fdiv (pv 1) pe_int) (pe_op op_pow pe_int pe_int))) (pa_const pe_int pa_nil)))) (pss_cons (ps_set (i := 8) sc__law_wrong.nd rfl (Or.inl rfl) (pe_lst (pa_tuple (pe_tup (pa_name (pv 2) (pa_name (pv 3) (pa_name (pv 4) pa_nil)))) (pa_tuple (pe_tup (pa_name (pv 2) (pa_name (pv 3) (pa_name (pv 4) (pa_name (pv 5) (pa_name (pv 5) pa_nil)))))) (pa_list (pe_lst (pa_name (pv 2) (pa_name (pv 3) (pa_name (pv 4) (pa_name (pv 5) pa_nil))))) (pa_tuple (pe_tup (pa_name (pv 6) (pa_name (pv 3) (pa_name (pv 4) (pa_name (pv 5) pa_nil))))) (pa_tuple (pe_tup (pa_name (pv 2) (pa_name (pv 6) (pa_name (pv 4) (pa_name (pv 5) pa_nil))))) (pa_tuple (pe_tup (pa_name (pv 2) (pa_name (pv 3) (pa_name (pv 6) (pa_name (pv 5) pa_nil))))) (pa_tuple (pe_tup (pa_name (pv 2) (pa_name (pv 3) (pa_name (pv 4) (pa_name (pv 6) pa_nil))))) pa_nil))))))))) (pss_cons (ps_set (i := 8) sc__law_wrong.nd rfl (Or.inl rfl) (pe_op op_cat (pv 8) (pe_lst (pa_tuple (pe_tup (pa_call (pe_cB C_sum_of (hr.mono (by decide)) pass01 (pa_name (pv 3) (pa_name (pv 7) pa_nil))) (pa_name (pv 3) (pa_name (pv 4) (pa_name (pv 5) pa_nil))))) (pa_tuple (pe_tup (pa_name (pv 2) (pa_name (pv 3) (pa_call (pe_cB C_sum_of (hr.mono (by decide)) pass01 (pa_name (pv 5) (pa_name (pv 7) pa_nil))) (pa_name (pv 5) pa_nil))))) (pa_const pe_non (pa_dict pe_dnew (pa_tuple (pe_tup pa_nil) pa_nil)))))))) (pss_one (ps_ret (pe_ix ix_list (pv 8) (pe_op op_mod (pv 1) pe_int) (fun _ _ => rfl))))))))), ?_⟩
  refine ⟨_, rfl, pb, _, rfl, hpb, rfl, va, _, rfl, vb, _, rfl, vc, _, rfl, vd, _, rfl, rfl, ?_⟩
  refine ⟨(by show 2 ≤ sizeLine; decide), fun p1 hp1 => ?_⟩
  have u1 := same_new hp1 (.tup [.int 2, .int 2])
  have d1 : DV K (upd H0 p1 (.tup [.int 2, .int 2])) (.ref p1) (.tuple [.int 2, .int 2]) := .tup (SqT.of upd_same) (.cons (.int _) (.cons (.int _) .nil))
  generalize upd H0 p1 (.tup [.int 2, .int 2]) = H1 at u1 d1 ⊢
  refine ⟨(by show 2 ≤ sizeLine; decide), fun p2 hp2 => ?_⟩
  have u2 := same_new hp2 (.tup [.int 1, .int 0])
  have d2 : DV K (upd H1 p2 (.tup [.int 1, .int 0])) (.ref p2) (.tuple [.int 1, .int 0]) := .tup (SqT.of upd_same) (.cons (.int _) (.cons (.int _) .nil))
  generalize upd H1 p2 (.tup [.int 1, .int 0]) = H2 at u2 d2 ⊢
  refine ⟨_, rfl, (by show 2 ≤ sizeLine; decide), fun p3 hp3 => ?_⟩
  have u3 := same_new hp3 (.tup [.int 1, .int (-1)])
  have d3 : DV K (upd H2 p3 (.tup [.int 1, .int (-1)])) (.ref p3) (.tuple [.int 1, .int (-1)]) := .tup (SqT.of upd_same) (.cons (.int _) (.cons (.int _) .nil))
  generalize upd H2 p3 (.tup [.int 1, .int (-1)]) = H3 at u3 d3 ⊢
  refine ⟨(by show 2 ≤ sizeLine; decide), fun p4 hp4 => ?_⟩
  have u4 := same_new hp4 (.lst [.int 1, .int 1])
  have d4 : DV K (upd H3 p4 (.lst [.int 1, .int 1])) (.ref p4) (.list [.int 1, .int 1]) := .lst (SqL.of upd_same) (.cons (.int _) (.cons (.int _) .nil))
  have l4 : (upd H3 p4 (.lst [.int 1, .int 1])) p4 = some (.lst [.int 1, .int 1]) := upd_same
  generalize upd H3 p4 (.lst [.int 1, .int 1]) = H4 at u4 d4 l4 ⊢
  refine ⟨(by show 7 ≤ sizeLine; decide), fun p5 hp5 => ?_⟩
  have u5 := same_new hp5 (.lst [.int 1, .non, .bl true, .ref p1, .ref p2, .ref p3, .ref p4])
  have d5 : DV K (upd H4 p5 (.lst [.int 1, .non, .bl true, .ref p1, .ref p2, .ref p3, .ref p4])) (.ref p5) (.list [.int 1, .none, .bool true, .tuple [.int 2, .int 2], .tuple [.int 1, .int 0], .tuple [.int 1, .int (-1)], .list [.int 1, .int 1]]) := .lst (SqL.of upd_same) (.cons (.int _) (.cons .non (.cons (.bl _) (.cons (d1.keep (u2.trans (u3.trans (u4.trans (u5))))) (.cons (d2.keep (u3.trans (u4.trans (u5)))) (.cons (d3.keep (u4.trans (u5))) (.cons (d4.keep (u5)) .nil)))))))
  have l5 : (upd H4 p5 (.lst [.int 1, .non, .bl true, .ref p1, .ref p2, .ref p3, .ref p4])) p5 = some (.lst [.int 1, .non, .bl true, .ref p1, .ref p2, .ref p3, .ref p4]) := upd_same
  generalize upd H4 p5 (.lst [.int 1, .non, .bl true, .ref p1, .ref p2, .ref p3, .ref p4]) = H5 at u5 d5 l5 ⊢
  have odds : DVs K H5 [.int 1, .non, .bl true, .ref p1, .ref p2, .ref p3, .ref p4] [.int 1, .none, .bool true, .tuple [.int 2, .int 2], .tuple [.int 1, .int 0], .tuple [.int 1, .int (-1)], .list [.int 1, .int 1]] := (.cons (.int _) (.cons .non (.cons (.bl _) (.cons (d1.keep (u2.trans (u3.trans (u4.trans (u5))))) (.cons (d2.keep (u3.trans (u4.trans (u5)))) (.cons (d3.keep (u4.trans (u5))) (.cons (d4.keep (u5)) .nil)))))))
  obtain ⟨ov, hov, hmo⟩ := atI_in (xs := [(.int 1 : V), .non, .bl true, .ref p1, .ref p2, .ref p3, .ref p4]) (r := z / 12 % 7) (by omega) (by simp only [List.length_cons, List.length_nil]; omega)
  refine ⟨_, rfl, _, _, rfl, rfl, ⟨by decide, by decide⟩, _, _, rfl, rfl, (by show (0 : Int) < 7; decide), p5, _, _, ov, rfl, rfl, SqL.of l5, hov, ?_⟩
  obtain ⟨oi, hoi⟩ := List.getElem?_of_mem hmo
  obtain ⟨od, hod, hox⟩ := odds.get hoi
  have hor : ratD od = false := by
    have hod := List.mem_of_getElem? hod
    simp only [List.mem_cons, List.not_mem_nil, or_false] at hod
    rcases hod with rfl | rfl | rfl | rfl | rfl | rfl | rfl <;> decide +kernel
  clear hod hmo hov hoi odds
  refine ⟨_, rfl, _, _, rfl, rfl, ⟨by decide, by decide⟩, _, _, rfl, rfl, ⟨by decide, by decide, by decide⟩, _, _, rfl, rfl, (by show (0 : Int) < 10 ^ 15; decide), _, _, rfl, rfl, ?_⟩
  have e15 : (10 : Int) ^ (Int.toNat 15) = 1000000000000000 := by decide
  dsimp only
  rw [e15]
  have m0 : 0 < 1 + z / 36 % 1000000000000000 := by omega
  have p58 : (2 : Nat) ^ 58 = 288230376151711744 := by decide
  have m1 : (1 + z / 36 % 1000000000000000).natAbs < 2 ^ 58 := by omega
  clear p58
  generalize 1 + z / 36 % 1000000000000000 = mm at m0 m1 ⊢
  refine ⟨_, _, rfl, (by decide), (Nat.lt_of_lt_of_le (show (7 : Int).natAbs < 2 ^ 7 by decide) (by unfold lim; exact pow_le (by decide))), fun p6 hp6 => ?_⟩
  have u6 := same_new hp6 (.tup [.int (Fr.lt mm 7), .int (Fr.lb mm 7)])
  have d6 : DV K _ (.ref p6) (frD (Rat.divInt mm 7)) := dv_low (H := H5) (by decide)
  have wb : Bd 58 (Rat.divInt mm 7) := Bd.of (by decide) m1 (by decide)
  have wp : 0 < Rat.divInt mm 7 := div_p m0 (by decide)
  generalize Rat.divInt mm 7 = wq at d6 wb wp
  generalize upd H5 p6 (.tup [.int (Fr.lt mm 7), .int (Fr.lb mm 7)]) = H6 at u6 d6 ⊢
  refine ⟨_, rfl, _, rfl, _, rfl, (by show 3 ≤ sizeLine; decide), fun p7 hp7 => ?_⟩
  have u7 := same_new hp7 (.tup [va, vb, vc])
  have d7 : DV K (upd H6 p7 (.tup [va, vb, vc])) (.ref p7) (.tuple [frD x.a, frD x.b, frD x.c]) := .tup (SqT.of upd_same) (.cons (ha.keep (u1.trans (u2.trans (u3.trans (u4.trans (u5.trans (u6.trans (u7)))))))) (.cons (hb.keep (u1.trans (u2.trans (u3.trans (u4.trans (u5.trans (u6.trans (u7)))))))) (.cons (hc.keep (u1.trans (u2.trans (u3.trans (u4.trans (u5.trans (u6.trans (u7)))))))) .nil)))
  generalize upd H6 p7 (.tup [va, vb, vc]) = H7 at u7 d7 ⊢
  refine ⟨_, rfl, _, rfl, _, rfl, _, rfl, _, rfl, (by show 5 ≤ sizeLine; decide), fun p8 hp8 => ?_⟩
  have u8 := same_new hp8 (.tup [va, vb, vc, vd, vd])
  have d8 : DV K (upd H7 p8 (.tup [va, vb, vc, vd, vd])) (.ref p8) (.tuple [frD x.a, frD x.b, frD x.c, frD x.d, frD x.d]) := .tup (SqT.of upd_same) (.cons (ha.keep (u1.trans (u2.trans (u3.trans (u4.trans (u5.trans (u6.trans (u7.trans (u8))))))))) (.cons (hb.keep (u1.trans (u2.trans (u3.trans (u4.trans (u5.trans (u6.trans (u7.trans (u8))))))))) (.cons (hc.keep (u1.trans (u2.trans (u3.trans (u4.trans (u5.trans (u6.trans (u7.trans (u8))))))))) (.cons (hd.keep (u1.trans (u2.trans (u3.trans (u4.trans (u5.trans (u6.trans (u7.trans (u8))))))))) (.cons (hd.keep (u1.trans (u2.trans (u3.trans (u4.trans (u5.trans (u6.trans (u7.trans (u8))))))))) .nil)))))
  generalize upd H7 p8 (.tup [va, vb, vc, vd, vd]) = H8 at u8 d8 ⊢
  refine ⟨_, rfl, _, rfl, _, rfl, _, rfl, (by show 4 ≤ sizeLine; decide), fun p9 hp9 => ?_⟩
  have u9 := same_new hp9 (.lst [va, vb, vc, vd])
  have d9 : DV K (upd H8 p9 (.lst [va, vb, vc, vd])) (.ref p9) (.list [frD x.a, frD x.b, frD x.c, frD x.d]) := .lst (SqL.of upd_same) (.cons (ha.keep (u1.trans (u2.trans (u3.trans (u4.trans (u5.trans (u6.trans (u7.trans (u8.trans (u9)))))))))) (.cons (hb.keep (u1.trans (u2.trans (u3.trans (u4.trans (u5.trans (u6.trans (u7.trans (u8.trans (u9)))))))))) (.cons (hc.keep (u1.trans (u2.trans (u3.trans (u4.trans (u5.trans (u6.trans (u7.trans (u8.trans (u9)))))))))) (.cons (hd.keep (u1.trans (u2.trans (u3.trans (u4.trans (u5.trans (u6.trans (u7.trans (u8.trans (u9)))))))))) .nil))))
  have l9 : (upd H8 p9 (.lst [va, vb, vc, vd])) p9 = some (.lst [va, vb, vc, vd]) := upd_same
  generalize upd H8 p9 (.lst [va, vb, vc, vd]) = H9 at u9 d9 l9 ⊢
  refine ⟨_, rfl, _, rfl, _, rfl, _, rfl, (by show 4 ≤ sizeLine; decide), fun p10 hp10 => ?_⟩
  have u10 := same_new hp10 (.tup [ov, vb, vc, vd])
  have d10 : DV K (upd H9 p10 (.tup [ov, vb, vc, vd])) (.ref p10) (.tuple [od, frD x.b, frD x.c, frD x.d]) := .tup (SqT.of upd_same) (.cons (hox.keep (u6.trans (u7.trans (u8.trans (u9.trans (u10)))))) (.cons (hb.keep (u1.trans (u2.trans (u3.trans (u4.trans (u5.trans (u6.trans (u7.trans (u8.trans (u9.trans (u10))))))))))) (.cons (hc.keep (u1.trans (u2.trans (u3.trans (u4.trans (u5.trans (u6.trans (u7.trans (u8.trans (u9.trans (u10))))))))))) (.cons (hd.keep (u1.trans (u2.trans (u3.trans (u4.trans (u5.trans (u6.trans (u7.trans (u8.trans (u9.trans (u10))))))))))) .nil))))
  generalize upd H9 p10 (.tup [ov, vb, vc, vd]) = H10 at u10 d10 ⊢
  refine ⟨_, rfl, _, rfl, _, rfl, _, rfl, (by show 4 ≤ sizeLine; decide), fun p11 hp11 => ?_⟩
  have u11 := same_new hp11 (.tup [va, ov, vc, vd])
  have d11 : DV K (upd H10 p11 (.tup [va, ov, vc, vd])) (.ref p11) (.tuple [frD x.a, od, frD x.c, frD x.d]) := .tup (SqT.of upd_same) (.cons (ha.keep (u1.trans (u2.trans (u3.trans (u4.trans (u5.trans (u6.trans (u7.trans (u8.trans (u9.trans (u10.trans (u11)))))))))))) (.cons (hox.keep (u6.trans (u7.trans (u8.trans (u9.trans (u10.trans (u11))))))) (.cons (hc.keep (u1.trans (u2.trans (u3.trans (u4.trans (u5.trans (u6.trans (u7.trans (u8.trans (u9.trans (u10.trans (u11)))))))))))) (.cons (hd.keep (u1.trans (u2.trans (u3.trans (u4.trans (u5.trans (u6.trans (u7.trans (u8.trans (u9.trans (u10.trans (u11)))))))))))) .nil))))
  generalize upd H10 p11 (.tup [va, ov, vc, vd]) = H11 at u11 d11 ⊢
  refine ⟨_, rfl, _, rfl, _, rfl, _, rfl, (by show 4 ≤ sizeLine; decide), fun p12 hp12 => ?_⟩
  have u12 := same_new hp12 (.tup [va, vb, ov, vd])
  have d12 : DV K (upd H11 p12 (.tup [va, vb, ov, vd])) (.ref p12) (.tuple [frD x.a, frD x.b, od, frD x.d]) := .tup (SqT.of upd_same) (.cons (ha.keep (u1.trans (u2.trans (u3.trans (u4.trans (u5.trans (u6.trans (u7.trans (u8.trans (u9.trans (u10.trans (u11.trans (u12))))))))))))) (.cons (hb.keep (u1.trans (u2.trans (u3.trans (u4.trans (u5.trans (u6.trans (u7.trans (u8.trans (u9.trans (u10.trans (u11.trans (u12))))))))))))) (.cons (hox.keep (u6.trans (u7.trans (u8.trans (u9.trans (u10.trans (u11.trans (u12)))))))) (.cons (hd.keep (u1.trans (u2.trans (u3.trans (u4.trans (u5.trans (u6.trans (u7.trans (u8.trans (u9.trans (u10.trans (u11.trans (u12))))))))))))) .nil))))
  generalize upd H11 p12 (.tup [va, vb, ov, vd]) = H12 at u12 d12 ⊢
  refine ⟨_, rfl, _, rfl, _, rfl, _, rfl, (by show 4 ≤ sizeLine; decide), fun p13 hp13 => ?_⟩
  have u13 := same_new hp13 (.tup [va, vb, vc, ov])
  have d13 : DV K (upd H12 p13 (.tup [va, vb, vc, ov])) (.ref p13) (.tuple [frD x.a, frD x.b, frD x.c, od]) := .tup (SqT.of upd_same) (.cons (ha.keep (u1.trans (u2.trans (u3.trans (u4.trans (u5.trans (u6.trans (u7.trans (u8.trans (u9.trans (u10.trans (u11.trans (u12.trans (u13)))))))))))))) (.cons (hb.keep (u1.trans (u2.trans (u3.trans (u4.trans (u5.trans (u6.trans (u7.trans (u8.trans (u9.trans (u10.trans (u11.trans (u12.trans (u13)))))))))))))) (.cons (hc.keep (u1.trans (u2.trans (u3.trans (u4.trans (u5.trans (u6.trans (u7.trans (u8.trans (u9.trans (u10.trans (u11.trans (u12.trans (u13)))))))))))))) (.cons (hox.keep (u6.trans (u7.trans (u8.trans (u9.trans (u10.trans (u11.trans (u12.trans (u13))))))))) .nil))))
  generalize upd H12 p13 (.tup [va, vb, vc, ov]) = H13 at u13 d13 ⊢
  refine ⟨(by show 7 ≤ sizeLine; decide), fun p14 hp14 => ?_⟩
  have u14 := same_new hp14 (.lst [.ref p7, .ref p8, .ref p9, .ref p10, .ref p11, .ref p12, .ref p13])
  have d14 : DV K (upd H13 p14 (.lst [.ref p7, .ref p8, .ref p9, .ref p10, .ref p11, .ref p12, .ref p13])) (.ref p14) (.list [.tuple [frD x.a, frD x.b, frD x.c], .tuple [frD x.a, frD x.b, frD x.c, frD x.d, frD x.d], .list [frD x.a, frD x.b, frD x.c, frD x.d], .tuple [od, frD x.b, frD x.c, frD x.d], .tuple [frD x.a, od, frD x.c, frD x.d], .tuple [frD x.a, frD x.b, od, frD x.d], .tuple [frD x.a, frD x.b, frD x.c, od]]) := .lst (SqL.of upd_same) (.cons (d7.keep (u8.trans (u9.trans (u10.trans (u11.trans (u12.trans (u13.trans (u14)))))))) (.cons (d8.keep (u9.trans (u10.trans (u11.trans (u12.trans (u13.trans (u14))))))) (.cons (d9.keep (u10.trans (u11.trans (u12.trans (u13.trans (u14)))))) (.cons (d10.keep (u11.trans (u12.trans (u13.trans (u14))))) (.cons (d11.keep (u12.trans (u13.trans (u14)))) (.cons (d12.keep (u13.trans (u14))) (.cons (d13.keep (u14)) .nil)))))))
  have l14 : (upd H13 p14 (.lst [.ref p7, .ref p8, .ref p9, .ref p10, .ref p11, .ref p12, .ref p13])) p14 = some (.lst [.ref p7, .ref p8, .ref p9, .ref p10, .ref p11, .ref p12, .ref p13]) := upd_same
  generalize upd H13 p14 (.lst [.ref p7, .ref p8, .ref p9, .ref p10, .ref p11, .ref p12, .ref p13]) = H14 at u14 d14 l14 ⊢
  refine ⟨_, rfl, _, rfl, _, rfl, _, _, .cons (hb.keep (u1.trans (u2.trans (u3.trans (u4.trans (u5.trans (u6.trans (u7.trans (u8.trans (u9.trans (u10.trans (u11.trans (u12.trans (u13.trans (u14))))))))))))))) (.cons (d6.keep (u7.trans (u8.trans (u9.trans (u10.trans (u11.trans (u12.trans (u13.trans (u14))))))))) .nil), ⟨_, _, rfl, xb.b.sm (by decide), wb.sm (by decide), rfl⟩, fun v15 H15 u15 d15 => ?_⟩
  have d15 : DV K H15 v15 (frD (x.b + wq)) := d15
  refine ⟨_, rfl, _, rfl, _, rfl, (by show 4 ≤ sizeLine; decide), fun p16 hp16 => ?_⟩
  have u16 := same_new hp16 (.tup [v15, vb, vc, vd])
  have d16 : DV K (upd H15 p16 (.tup [v15, vb, vc, vd])) (.ref p16) (.tuple [frD (x.b + wq), frD x.b, frD x.c, frD x.d]) := .tup (SqT.of upd_same) (.cons (d15.keep (u16)) (.cons (hb.keep (u1.trans (u2.trans (u3.trans (u4.trans (u5.trans (u6.trans (u7.trans (u8.trans (u9.trans (u10.trans (u11.trans (u12.trans (u13.trans (u14.trans (u15.trans (u16))))))))))))))))) (.cons (hc.keep (u1.trans (u2.trans (u3.trans (u4.trans (u5.trans (u6.trans (u7.trans (u8.trans (u9.trans (u10.trans (u11.trans (u12.trans (u13.trans (u14.trans (u15.trans (u16))))))))))))))))) (.cons (hd.keep (u1.trans (u2.trans (u3.trans (u4.trans (u5.trans (u6.trans (u7.trans (u8.trans (u9.trans (u10.trans (u11.trans (u12.trans (u13.trans (u14.trans (u15.trans (u16))))))))))))))))) .nil))))
  generalize upd H15 p16 (.tup [v15, vb, vc, vd]) = H16 at u16 d16 ⊢
  refine ⟨_, rfl, _, rfl, _, rfl, _, rfl, _, _, .cons (hd.keep (u1.trans (u2.trans (u3.trans (u4.trans (u5.trans (u6.trans (u7.trans (u8.trans (u9.trans (u10.trans (u11.trans (u12.trans (u13.trans (u14.trans (u15.trans (u16))))))))))))))))) (.cons (d6.keep (u7.trans (u8.trans (u9.trans (u10.trans (u11.trans (u12.trans (u13.trans (u14.trans (u15.trans (u16))))))))))) .nil), ⟨_, _, rfl, xb.d.sm (by decide), wb.sm (by decide), rfl⟩, fun v17 H17 u17 d17 => ?_⟩
  have d17 : DV K H17 v17 (frD (x.d + wq)) := d17
  refine ⟨_, rfl, (by show 4 ≤ sizeLine; decide), fun p18 hp18 => ?_⟩
  have u18 := same_new hp18 (.tup [va, vb, v17, vd])
  have d18 : DV K (upd H17 p18 (.tup [va, vb, v17, vd])) (.ref p18) (.tuple [frD x.a, frD x.b, frD (x.d + wq), frD x.d]) := .tup (SqT.of upd_same) (.cons (ha.keep (u1.trans (u2.trans (u3.trans (u4.trans (u5.trans (u6.trans (u7.trans (u8.trans (u9.trans (u10.trans (u11.trans (u12.trans (u13.trans (u14.trans (u15.trans (u16.trans (u17.trans (u18))))))))))))))))))) (.cons (hb.keep (u1.trans (u2.trans (u3.trans (u4.trans (u5.trans (u6.trans (u7.trans (u8.trans (u9.trans (u10.trans (u11.trans (u12.trans (u13.trans (u14.trans (u15.trans (u16.trans (u17.trans (u18))))))))))))))))))) (.cons (d17.keep (u18)) (.cons (hd.keep (u1.trans (u2.trans (u3.trans (u4.trans (u5.trans (u6.trans (u7.trans (u8.trans (u9.trans (u10.trans (u11.trans (u12.trans (u13.trans (u14.trans (u15.trans (u16.trans (u17.trans (u18))))))))))))))))))) .nil))))
  generalize upd H17 p18 (.tup [va, vb, v17, vd]) = H18 at u18 d18 ⊢
  refine fun p19 hp19 => ?_
  have u19 := same_new hp19 (.dK [])
  have d19 : DV K (upd H18 p19 (.dK [])) (.ref p19) (.dict []) := .dct upd_same
  generalize upd H18 p19 (.dK []) = H19 at u19 d19 ⊢
  refine ⟨(by show 0 ≤ sizeLine; decide), fun p20 hp20 => ?_⟩
  have u20 := same_new hp20 (.tup [])
  have d20 : DV K (upd H19 p20 (.tup [])) (.ref p20) (.tuple []) := .tup (SqT.of upd_same) .nil
  generalize upd H19 p20 (.tup []) = H20 at u20 d20 ⊢
  refine ⟨(by show 5 ≤ sizeLine; decide), fun p21 hp21 => ?_⟩
  have u21 := same_new hp21 (.lst [.ref p16, .ref p18, .non, .ref p19, .ref p20])
  have d21 : DV K (upd H20 p21 (.lst [.ref p16, .ref p18, .non, .ref p19, .ref p20])) (.ref p21) (.list [.tuple [frD (x.b + wq), frD x.b, frD x.c, frD x.d], .tuple [frD x.a, frD x.b, frD (x.d + wq), frD x.d], .none, .dict [], .tuple []]) := .lst (SqL.of upd_same) (.cons (d16.keep (u17.trans (u18.trans (u19.trans (u20.trans (u21)))))) (.cons (d18.keep (u19.trans (u20.trans (u21)))) (.cons .non (.cons (d19.keep (u20.trans (u21))) (.cons (d20.keep (u21)) .nil)))))
  have l21 : (upd H20 p21 (.lst [.ref p16, .ref p18, .non, .ref p19, .ref p20])) p21 = some (.lst [.ref p16, .ref p18, .non, .ref p19, .ref p20]) := upd_same
  generalize upd H20 p21 (.lst [.ref p16, .ref p18, .non, .ref p19, .ref p20]) = H21 at u21 d21 l21 ⊢
  refine ⟨p14, p21, _, _, rfl, rfl, (u15.trans (u16.trans (u17.trans (u18.trans (u19.trans (u20.trans (u21))))))) _ _ l14, (Same.refl _) _ _ l21, (by show 12 ≤ sizeLine; decide), fun p22 hp22 => ?_⟩
  have u22 := same_new hp22 (.lst ([(.ref p7 : V), .ref p8, .ref p9, .ref p10, .ref p11, .ref p12, .ref p13] ++ [(.ref p16 : V), .ref p18, .non, .ref p19, .ref p20]))
  have l22 : (upd H21 p22 (.lst ([(.ref p7 : V), .ref p8, .ref p9, .ref p10, .ref p11, .ref p12, .ref p13] ++ [(.ref p16 : V), .ref p18, .non, .ref p19, .ref p20]))) p22 = some (.lst ([(.ref p7 : V), .ref p8, .ref p9, .ref p10, .ref p11, .ref p12, .ref p13] ++ [(.ref p16 : V), .ref p18, .non, .ref p19, .ref p20])) := upd_same
  generalize upd H21 p22 (.lst ([(.ref p7 : V), .ref p8, .ref p9, .ref p10, .ref p11, .ref p12, .ref p13] ++ [(.ref p16 : V), .ref p18, .non, .ref p19, .ref p20])) = H22 at u22 l22 ⊢
  have all : DVs K H22 [.ref p7, .ref p8, .ref p9, .ref p10, .ref p11, .ref p12, .ref p13, .ref p16, .ref p18, .non, .ref p19, .ref p20] [.tuple [frD x.a, frD x.b, frD x.c], .tuple [frD x.a, frD x.b, frD x.c, frD x.d, frD x.d], .list [frD x.a, frD x.b, frD x.c, frD x.d], .tuple [od, frD x.b, frD x.c, frD x.d], .tuple [frD x.a, od, frD x.c, frD x.d], .tuple [frD x.a, frD x.b, od, frD x.d], .tuple [frD x.a, frD x.b, frD x.c, od], .tuple [frD (x.b + wq), frD x.b, frD x.c, frD x.d], .tuple [frD x.a, frD x.b, frD (x.d + wq), frD x.d], .none, .dict [], .tuple []] := (.cons (d7.keep (u8.trans (u9.trans (u10.trans (u11.trans (u12.trans (u13.trans (u14.trans (u15.trans (u16.trans (u17.trans (u18.trans (u19.trans (u20.trans (u21.trans (u22)))))))))))))))) (.cons (d8.keep (u9.trans (u10.trans (u11.trans (u12.trans (u13.trans (u14.trans (u15.trans (u16.trans (u17.trans (u18.trans (u19.trans (u20.trans (u21.trans (u22))))))))))))))) (.cons (d9.keep (u10.trans (u11.trans (u12.trans (u13.trans (u14.trans (u15.trans (u16.trans (u17.trans (u18.trans (u19.trans (u20.trans (u21.trans (u22)))))))))))))) (.cons (d10.keep (u11.trans (u12.trans (u13.trans (u14.trans (u15.trans (u16.trans (u17.trans (u18.trans (u19.trans (u20.trans (u21.trans (u22))))))))))))) (.cons (d11.keep (u12.trans (u13.trans (u14.trans (u15.trans (u16.trans (u17.trans (u18.trans (u19.trans (u20.trans (u21.trans (u22)))))))))))) (.cons (d12.keep (u13.trans (u14.trans (u15.trans (u16.trans (u17.trans (u18.trans (u19.trans (u20.trans (u21.trans (u22))))))))))) (.cons (d13.keep (u14.trans (u15.trans (u16.trans (u17.trans (u18.trans (u19.trans (u20.trans (u21.trans (u22)))))))))) (.cons (d16.keep (u17.trans (u18.trans (u19.trans (u20.trans (u21.trans (u22))))))) (.cons (d18.keep (u19.trans (u20.trans (u21.trans (u22))))) (.cons .non (.cons (d19.keep (u20.trans (u21.trans (u22)))) (.cons (d20.keep (u21.trans (u22))) .nil))))))))))))
  have tall : Same H0 H22 := (u1.trans (u2.trans (u3.trans (u4.trans (u5.trans (u6.trans (u7.trans (u8.trans (u9.trans (u10.trans (u11.trans (u12.trans (u13.trans (u14.trans (u15.trans (u16.trans (u17.trans (u18.trans (u19.trans (u20.trans (u21.trans (u22))))))))))))))))))))))
  obtain ⟨v, hv, hm⟩ := atI_in (xs := ([(.ref p7 : V), .ref p8, .ref p9, .ref p10, .ref p11, .ref p12, .ref p13] ++ [(.ref p16 : V), .ref p18, .non, .ref p19, .ref p20])) (r := z % 12) (by omega) (by simp only [List.length_append, List.length_cons, List.length_nil]; omega)
  refine ⟨_, rfl, _, rfl, _, _, rfl, rfl, (by show (0 : Int) < 12; decide), p22, _, _, v, rfl, rfl, SqL.of l22, hv, ?_⟩
  obtain ⟨i, hi⟩ := List.getElem?_of_mem hm
  obtain ⟨d, hd', hxd⟩ := all.get hi
  refine q v d _ tall hxd ?_
  have hd' := List.mem_of_getElem? hd'
  simp only [List.mem_cons, List.not_mem_nil, or_false] at hd'
  have sa := xb.a.sm (by decide)
  have sb := xb.b.sm (by decide)
  have sc := xb.c.sm (by decide)
  have sd := xb.d.sm (by decide)
  have sB : Sm (x.b + wq) := (xb.b.add wb).sm (by decide)
  have sD : Sm (x.d + wq) := (xb.d.add wb).sm (by decide)
  have gb : x.b < x.b + wq := by grind
  have gd : x.d < x.d + wq := by grind
  have yes : StrB (frD x.a) (frD x.b) true := .yes sa sb xo.1
  rcases hd' with rfl | rfl | rfl | rfl | rfl | rfl | rfl | rfl | rfl | rfl | rfl | rfl
  · exact .many (by simp)
  · exact .many (by simp)
  · exact .kind rfl
  · exact .fst (.one hor)
  · exact .fst (.two hor)
  · exact .snd yes (.one hor)
  · exact .snd yes (.two hor)
  · exact .fst (.turned sB sb gb)
  · exact .snd yes (.turned sD sd gd)
  · exact .kind rfl
  · exact .kind rfl
  · exact .many (by decide)
end
end K42
namespace K42
open PySem L2 Lib Fr Op
seal PE PT PW PA PS PSs PG PGs PI PO PIfs
section
variable {P : Program} {w : World} {K : PySem.W.Frag} {mg : Str → Option Value} {base : Heap} {ad : Adr} {c : Bool}
theorem c__law_no_bench (T : Txt K mg ad) : CalB P w K mg base true 3 "_law_no_bench" ["_law_bench_here", "_law_cell"] (spSpoilt K) := by
  refine T.t__law_no_bench.calN sc__law_no_bench (fun _ _ _ _ _ _ => by2 fun _ _ => rfl) (fun vs H Q E h => ?_) (fun f cdv A outer s H0 vs Q E hr h => ?_)
  · obtain ⟨_, _, _, _, rfl, _⟩ := h; rfl
  obtain ⟨lb, xs, ps, z, rfl, hlb, hxs, g, h8, q⟩ := h
  refine ⟨_, (pss_cons (ps_set (i := 2) sc__law_no_bench.nd rfl (Or.inl rfl) (pe_op op_mod (pe_op op_fdiv (pv 1) pe_int) (pe_op op_add (pe_callB call_len_seq rfl T.len bt_len (pa_name (pv 0) pa_nil)) pe_int))) (pss_cons (ps_set (i := 3) sc__law_no_bench.nd rfl (Or.inl rfl) (pe_lst (pa_const pe_non (pa_tuple (pe_tup (pa_const pe_str pa_nil)) (pa_tuple (pe_tup (pa_const pe_str (pa_const pe_int pa_nil))) (pa_tuple (pe_tup (pa_const pe_str (pa_tuple (pe_tup (pa_const pe_int (pa_const pe_int pa_nil))) pa_nil))) (pa_list (pe_lst (pa_const pe_str (pa_tuple (pe_tup (pa_const pe_int (pa_const pe_int pa_nil))) pa_nil))) (pa_tuple (pe_tup (pa_const pe_str (pa_tuple (pe_tup (pa_const pe_int (pa_const pe_int pa_nil))) (pa_tuple (pe_tup (pa_const pe_int (pa_const pe_int pa_nil))) pa_nil)))) (pa_tuple (pe_tup (pa_const pe_str (pa_tuple (pe_tup (pa_const pe_int (pa_const pe_int pa_nil))) pa_nil))) pa_nil))))))))) (pss_cons (ps_if (pt_cmpR op_lt (pe_op op_mod (pv 1) pe_int) pe_int (nomark _)) (pss_one (ps_ret (pe_tup (pa_bin (pe_op op_cat (pe_op op_cat (pe_slice sl_list (pv 0) po_none (po_some (pv 2))) (pe_lst (pa_sub (pe_ix ix_list (pv 3) (pe_op op_mod (pe_op op_fdiv (pv 1) pe_int) pe_int) (fun _ _ => rfl)) pa_nil))) (pe_slice sl_list (pv 0) (po_some (pv 2)) po_none)) (pa_name (pv 2) pa_nil))))) pss_nil) (pss_one (ps_ret (pe_tup (pa_sub (pe_ix ix_list (pe_lst (pa_const pe_non (pa_call (pe_callTy call_tuple_of rfl T.tuple bt_tuple (pa_name (pv 0) pa_nil)) (pa_bin (pe_op op_cat (pv 0) (pe_op op_rep (pe_lst (pa_tuple (pe_tup (pa_const pe_str (pa_tuple (pe_tup (pa_const pe_int (pa_const pe_int pa_nil))) pa_nil))) pa_nil)) (pe_op op_sub pe_int (pe_callB call_len_seq rfl T.len bt_len (pa_name (pv 0) pa_nil))))) pa_nil)))) (pe_op op_sub (pe_op op_mod (pv 1) pe_int) pe_int) (fun _ _ => rfl)) (pa_const pe_non pa_nil)))))))), ?_⟩
  refine ⟨_, rfl, _, _, rfl, rfl, ⟨by decide, by decide⟩, _, rfl, lb, _, rfl, .inl (SqL.of hlb), _, _, rfl, rfl, _, _, rfl, rfl, (by show (0 : Int) < (xs.length : Int) + 1; omega), ?_⟩
  obtain ⟨i, ei, hi⟩ : ∃ i : Nat, z / 7 % ((xs.length : Int) + 1) = (i : Int) ∧ i ≤ xs.length := by
    have h0 := Int.emod_nonneg (z / 7) (show ((xs.length : Int) + 1) ≠ 0 by omega)
    have h1 := Int.emod_lt_of_pos (z / 7) (show 0 < ((xs.length : Int) + 1) by omega)
    exact ⟨(z / 7 % ((xs.length : Int) + 1)).toNat, by omega, by omega⟩
  dsimp only
  rw [ei]
  refine ⟨(by show 1 ≤ sizeLine; decide), fun p1 hp1 => ?_⟩
  have u1 := same_new hp1 (.tup [.str "gap"])
  have d1 : DV K (upd H0 p1 (.tup [.str "gap"])) (.ref p1) (.tuple [.str "gap"]) := .tup (SqT.of upd_same) (.cons (.str _) .nil)
  generalize upd H0 p1 (.tup [.str "gap"]) = H1 at u1 d1 ⊢
  refine ⟨(by show 2 ≤ sizeLine; decide), fun p2 hp2 => ?_⟩
  have u2 := same_new hp2 (.tup [.str "gap", .int 1])
  have d2 : DV K (upd H1 p2 (.tup [.str "gap", .int 1])) (.ref p2) (.tuple [.str "gap", .int 1]) := .tup (SqT.of upd_same) (.cons (.str _) (.cons (.int _) .nil))
  generalize upd H1 p2 (.tup [.str "gap", .int 1]) = H2 at u2 d2 ⊢
  refine ⟨(by show 2 ≤ sizeLine; decide), fun p3 hp3 => ?_⟩
  have u3 := same_new hp3 (.tup [.int 1, .int 1])
  have d3 : DV K (upd H2 p3 (.tup [.int 1, .int 1])) (.ref p3) (.tuple [.int 1, .int 1]) := .tup (SqT.of upd_same) (.cons (.int _) (.cons (.int _) .nil))
  generalize upd H2 p3 (.tup [.int 1, .int 1]) = H3 at u3 d3 ⊢
  refine ⟨(by show 2 ≤ sizeLine; decide), fun p4 hp4 => ?_⟩
  have u4 := same_new hp4 (.tup [.str "lens", .ref p3])
  have d4 : DV K (upd H3 p4 (.tup [.str "lens", .ref p3])) (.ref p4) (.tuple [.str "lens", .tuple [.int 1, .int 1]]) := .tup (SqT.of upd_same) (.cons (.str _) (.cons (d3.keep (u4)) .nil))
  generalize upd H3 p4 (.tup [.str "lens", .ref p3]) = H4 at u4 d4 ⊢
  refine ⟨(by show 2 ≤ sizeLine; decide), fun p5 hp5 => ?_⟩
  have u5 := same_new hp5 (.tup [.int 1, .int 1])
  have d5 : DV K (upd H4 p5 (.tup [.int 1, .int 1])) (.ref p5) (.tuple [.int 1, .int 1]) := .tup (SqT.of upd_same) (.cons (.int _) (.cons (.int _) .nil))
  generalize upd H4 p5 (.tup [.int 1, .int 1]) = H5 at u5 d5 ⊢
  refine ⟨(by show 2 ≤ sizeLine; decide), fun p6 hp6 => ?_⟩
  have u6 := same_new hp6 (.lst [.str "gap", .ref p5])
  have d6 : DV K (upd H5 p6 (.lst [.str "gap", .ref p5])) (.ref p6) (.list [.str "gap", .tuple [.int 1, .int 1]]) := .lst (SqL.of upd_same) (.cons (.str _) (.cons (d5.keep (u6)) .nil))
  have l6 : (upd H5 p6 (.lst [.str "gap", .ref p5])) p6 = some (.lst [.str "gap", .ref p5]) := upd_same
  generalize upd H5 p6 (.lst [.str "gap", .ref p5]) = H6 at u6 d6 l6 ⊢
  refine ⟨(by show 2 ≤ sizeLine; decide), fun p7 hp7 => ?_⟩
  have u7 := same_new hp7 (.tup [.int 2, .int 1])
  have d7 : DV K (upd H6 p7 (.tup [.int 2, .int 1])) (.ref p7) (.tuple [.int 2, .int 1]) := .tup (SqT.of upd_same) (.cons (.int _) (.cons (.int _) .nil))
  generalize upd H6 p7 (.tup [.int 2, .int 1]) = H7 at u7 d7 ⊢
  refine ⟨(by show 2 ≤ sizeLine; decide), fun p8 hp8 => ?_⟩
  have u8 := same_new hp8 (.tup [.int 1, .int 1])
  have d8 : DV K (upd H7 p8 (.tup [.int 1, .int 1])) (.ref p8) (.tuple [.int 1, .int 1]) := .tup (SqT.of upd_same) (.cons (.int _) (.cons (.int _) .nil))
  generalize upd H7 p8 (.tup [.int 1, .int 1]) = H8 at u8 d8 ⊢
  refine ⟨(by show 3 ≤ sizeLine; decide), fun p9 hp9 => ?_⟩
  have u9 := same_new hp9 (.tup [.str "stop", .ref p7, .ref p8])
  have d9 : DV K (upd H8 p9 (.tup [.str "stop", .ref p7, .ref p8])) (.ref p9) (.tuple [.str "stop", .tuple [.int 2, .int 1], .tuple [.int 1, .int 1]]) := .tup (SqT.of upd_same) (.cons (.str _) (.cons (d7.keep (u8.trans (u9))) (.cons (d8.keep (u9)) .nil)))
  generalize upd H8 p9 (.tup [.str "stop", .ref p7, .ref p8]) = H9 at u9 d9 ⊢
  refine ⟨(by show 2 ≤ sizeLine; decide), fun p10 hp10 => ?_⟩
  have u10 := same_new hp10 (.tup [.int 1, .int 1])
  have d10 : DV K (upd H9 p10 (.tup [.int 1, .int 1])) (.ref p10) (.tuple [.int 1, .int 1]) := .tup (SqT.of upd_same) (.cons (.int _) (.cons (.int _) .nil))
  generalize upd H9 p10 (.tup [.int 1, .int 1]) = H10 at u10 d10 ⊢
  refine ⟨(by show 2 ≤ sizeLine; decide), fun p11 hp11 => ?_⟩
  have u11 := same_new hp11 (.tup [.str "stop", .ref p10])
  have d11 : DV K (upd H10 p11 (.tup [.str "stop", .ref p10])) (.ref p11) (.tuple [.str "stop", .tuple [.int 1, .int 1]]) := .tup (SqT.of upd_same) (.cons (.str _) (.cons (d10.keep (u11)) .nil))
  generalize upd H10 p11 (.tup [.str "stop", .ref p10]) = H11 at u11 d11 ⊢
  refine ⟨(by show 7 ≤ sizeLine; decide), fun p12 hp12 => ?_⟩
  have u12 := same_new hp12 (.lst [.non, .ref p1, .ref p2, .ref p4, .ref p6, .ref p9, .ref p11])
  have d12 : DV K (upd H11 p12 (.lst [.non, .ref p1, .ref p2, .ref p4, .ref p6, .ref p9, .ref p11])) (.ref p12) (.list [.none, .tuple [.str "gap"], .tuple [.str "gap", .int 1], .tuple [.str "lens", .tuple [.int 1, .int 1]], .list [.str "gap", .tuple [.int 1, .int 1]], .tuple [.str "stop", .tuple [.int 2, .int 1], .tuple [.int 1, .int 1]], .tuple [.str "stop", .tuple [.int 1, .int 1]]]) := .lst (SqL.of upd_same) (.cons .non (.cons (d1.keep (u2.trans (u3.trans (u4.trans (u5.trans (u6.trans (u7.trans (u8.trans (u9.trans (u10.trans (u11.trans (u12)))))))))))) (.cons (d2.keep (u3.trans (u4.trans (u5.trans (u6.trans (u7.trans (u8.trans (u9.trans (u10.trans (u11.trans (u12))))))))))) (.cons (d4.keep (u5.trans (u6.trans (u7.trans (u8.trans (u9.trans (u10.trans (u11.trans (u12))))))))) (.cons (d6.keep (u7.trans (u8.trans (u9.trans (u10.trans (u11.trans (u12))))))) (.cons (d9.keep (u10.trans (u11.trans (u12)))) (.cons (d11.keep (u12)) .nil)))))))
  have l12 : (upd H11 p12 (.lst [.non, .ref p1, .ref p2, .ref p4, .ref p6, .ref p9, .ref p11])) p12 = some (.lst [.non, .ref p1, .ref p2, .ref p4, .ref p6, .ref p9, .ref p11]) := upd_same
  generalize upd H11 p12 (.lst [.non, .ref p1, .ref p2, .ref p4, .ref p6, .ref p9, .ref p11]) = H12 at u12 d12 l12 ⊢
  have odds : DVs K H12 [.non, .ref p1, .ref p2, .ref p4, .ref p6, .ref p9, .ref p11] [.none, .tuple [.str "gap"], .tuple [.str "gap", .int 1], .tuple [.str "lens", .tuple [.int 1, .int 1]], .list [.str "gap", .tuple [.int 1, .int 1]], .tuple [.str "stop", .tuple [.int 2, .int 1], .tuple [.int 1, .int 1]], .tuple [.str "stop", .tuple [.int 1, .int 1]]] := (.cons .non (.cons (d1.keep (u2.trans (u3.trans (u4.trans (u5.trans (u6.trans (u7.trans (u8.trans (u9.trans (u10.trans (u11.trans (u12)))))))))))) (.cons (d2.keep (u3.trans (u4.trans (u5.trans (u6.trans (u7.trans (u8.trans (u9.trans (u10.trans (u11.trans (u12))))))))))) (.cons (d4.keep (u5.trans (u6.trans (u7.trans (u8.trans (u9.trans (u10.trans (u11.trans (u12))))))))) (.cons (d6.keep (u7.trans (u8.trans (u9.trans (u10.trans (u11.trans (u12))))))) (.cons (d9.keep (u10.trans (u11.trans (u12)))) (.cons (d11.keep (u12)) .nil)))))))
  have hpl : xs.length = ps.length := by have h := hxs.len; rw [List.length_map] at h; exact h
  have t12 : Same H0 H12 := (u1.trans (u2.trans (u3.trans (u4.trans (u5.trans (u6.trans (u7.trans (u8.trans (u9.trans (u10.trans (u11.trans (u12))))))))))))
  have hlb := t12 _ _ hlb
  have hxs := hxs.keep t12
  clear d1 d2 d3 d4 d5 d6 d7 d8 d9 d10 d11 d12 u1 u2 u3 u4 u5 u6 u7 u8 u9 u10 u11 u12
  refine ⟨_, rfl, _, _, rfl, rfl, (by show (0 : Int) < 7; decide), _, _, rfl, rfl, _, rfl, ite2 (fun _ => ?_) (fun h4 => ?_)⟩
  · refine ⟨_, rfl, _, rfl, _, rfl, lb, _, rfl, SqL.of hlb, fun p1' hp1' => ?_⟩
    have v1 := same_new hp1' (.lst (cutV xs none (some (i : Int))))
    have l1' : (upd H12 p1' (.lst (cutV xs none (some (i : Int))))) p1' = some (.lst (xs.take i)) := by rw [upd_same, cut_take]
    have l12 := v1 _ _ l12
    have hlb := v1 _ _ hlb
    have hxs := hxs.keep v1
    have odds := odds.keep v1
    have w1 := t12.trans v1
    generalize upd H12 p1' (.lst (cutV xs none (some (i : Int)))) = G1 at l1' l12 hlb hxs odds w1 ⊢
    obtain ⟨ov, hov, hmo⟩ := atI_in (xs := [(.non : V), .ref p1, .ref p2, .ref p4, .ref p6, .ref p9, .ref p11]) (r := z / 70 % 7) (by omega) (by simp only [List.length_cons, List.length_nil]; omega)
    refine ⟨_, rfl, _, rfl, _, _, rfl, rfl, ⟨by decide, by decide⟩, _, _, rfl, rfl, (by show (0 : Int) < 7; decide), p12, _, _, ov, rfl, rfl, SqL.of l12, hov, ?_⟩
    obtain ⟨oi, hoi⟩ := List.getElem?_of_mem hmo
    obtain ⟨od, hod, hox⟩ := odds.get hoi
    have odb : OddB od := by
      have hod := List.mem_of_getElem? hod
      simp only [List.mem_cons, List.not_mem_nil, or_false] at hod
      rcases hod with rfl | rfl | rfl | rfl | rfl | rfl | rfl <;> exact ⟨by decide +kernel, smP_b (by decide +kernel)⟩
    clear hod hmo hov hoi odds
    refine ⟨(by show 1 ≤ sizeLine; decide), fun p2' hp2' => ?_⟩
    have v2 := same_new hp2' (.lst [ov])
    have l2' : (upd G1 p2' (.lst [ov])) p2' = some (.lst [ov]) := upd_same
    have hox := hox.keep v2
    generalize upd G1 p2' (.lst [ov]) = G2 at v2 l2' hox ⊢
    have lt : (xs.take i).length ≤ 8 := by rw [List.length_take]; omega
    refine ⟨p1', p2', _, _, rfl, rfl, v2 _ _ l1', l2', Nat.le_of_lt (small1000 (by simp only [List.length_append, List.length_cons, List.length_nil]; omega)), fun p3' hp3' => ?_⟩
    have v3 := same_new hp3' (.lst (xs.take i ++ [ov]))
    have l3' : (upd G2 p3' (.lst (xs.take i ++ [ov]))) p3' = some (.lst (xs.take i ++ [ov])) := upd_same
    generalize upd G2 p3' (.lst (xs.take i ++ [ov])) = G3 at v3 l3' ⊢
    have w3 := v2.trans v3
    refine ⟨_, rfl, _, rfl, _, rfl, lb, _, rfl, SqL.of (w3 _ _ hlb), fun p4' hp4' => ?_⟩
    have v4 := same_new hp4' (.lst (cutV xs (some (i : Int)) none))
    have l4' : (upd G3 p4' (.lst (cutV xs (some (i : Int)) none))) p4' = some (.lst (xs.drop i)) := by rw [upd_same, cut_drop]
    generalize upd G3 p4' (.lst (cutV xs (some (i : Int)) none)) = G4 at v4 l4' ⊢
    have ld : (xs.drop i).length ≤ 8 := by rw [List.length_drop]; omega
    refine ⟨p3', p4', _, _, rfl, rfl, v4 _ _ l3', l4', Nat.le_of_lt (small1000 (by simp only [List.length_append, List.length_cons, List.length_nil]; omega)), fun p5' hp5' => ?_⟩
    have v5 := same_new hp5' (.lst (xs.take i ++ [ov] ++ xs.drop i))
    have w5 := w3.trans (v4.trans v5)
    have hbad : DV K (upd G4 p5' (.lst (xs.take i ++ [ov] ++ xs.drop i))) (.ref p5') (.list ((ps.take i).map pcD ++ od :: (ps.drop i).map pcD ++ [])) := by
      refine .lst (SqL.of upd_same) ?_
      have e : (ps.take i).map pcD ++ od :: (ps.drop i).map pcD ++ [] = (ps.take i).map pcD ++ [od] ++ (ps.drop i).map pcD := by simp
      rw [e]
      refine ((DVs.append ?_ (.cons (hox.keep (v3.trans (v4.trans v5))) .nil)).append ?_)
      · rw [List.map_take]; exact (hxs.take i).keep w5
      · rw [List.map_drop]; exact (hxs.drop i).keep w5
    have rbad : RefB (.list ((ps.take i).map pcD ++ od :: (ps.drop i).map pcD ++ [])) (some i) :=
      .inr ⟨_, i, rfl, badAt_mid (m := 15) (by decide) g (by omega) odb (fun e he => nomatch he) (by simp only [List.length_nil]; omega), rfl⟩
    have w5 := w1.trans w5
    generalize upd G4 p5' (.lst (xs.take i ++ [ov] ++ xs.drop i)) = G5 at hbad w5 ⊢
    refine ⟨_, rfl, (by show 2 ≤ sizeLine; decide), fun p6' hp6' => ?_⟩
    have v6 := same_new hp6' (.tup [.ref p5', .int (i : Int)])
    exact q p6' (.ref p5') _ _ (some i) (w5.trans v6) (SqT.of upd_same) (hbad.keep v6) rbad
  · refine ⟨_, rfl, lb, _, rfl, .inl ⟨SqL.of hlb, fun p1' hp1' => ?_⟩⟩
    have v1 := same_new hp1' (.tup xs)
    have m1 : DV K (upd H12 p1' (.tup xs)) (.ref p1') (.tuple (ps.map pcD)) := .tup (SqT.of upd_same) (hxs.keep v1)
    have hlb := v1 _ _ hlb
    have hxs := hxs.keep v1
    have w1 := t12.trans v1
    generalize upd H12 p1' (.tup xs) = G1 at m1 hlb hxs w1 ⊢
    refine ⟨_, rfl, (by show 2 ≤ sizeLine; decide), fun q1 hq1 => ?_⟩
    have y1 := same_new hq1 (.tup [.int 1, .int 1])
    have e1 : DV K (upd G1 q1 (.tup [.int 1, .int 1])) (.ref q1) (.tuple [.int 1, .int 1]) := .tup (SqT.of upd_same) (.cons (.int _) (.cons (.int _) .nil))
    generalize upd G1 q1 (.tup [.int 1, .int 1]) = J1 at y1 e1 ⊢
    refine ⟨(by show 2 ≤ sizeLine; decide), fun q2 hq2 => ?_⟩
    have y2 := same_new hq2 (.tup [.str "gap", .ref q1])
    have e2 : DV K (upd J1 q2 (.tup [.str "gap", .ref q1])) (.ref q2) (.tuple [.str "gap", .tuple [.int 1, .int 1]]) := .tup (SqT.of upd_same) (.cons (.str _) (.cons (e1.keep y2) .nil))
    generalize upd J1 q2 (.tup [.str "gap", .ref q1]) = J2 at y2 e2 ⊢
    refine ⟨(by show 1 ≤ sizeLine; decide), fun q3 hq3 => ?_⟩
    have y3 := same_new hq3 (.lst [.ref q2])
    have m3 : (upd J2 q3 (.lst [.ref q2])) q3 = some (.lst [.ref q2]) := upd_same
    generalize upd J2 q3 (.lst [.ref q2]) = J3 at y3 m3 ⊢
    have x3 := y1.trans (y2.trans y3)
    refine ⟨_, rfl, lb, _, rfl, .inl (SqL.of (x3 _ _ hlb)), _, _, rfl, rfl, ?_⟩
    obtain ⟨c, ec, c1, c2⟩ : ∃ c : Nat, (61 - ((xs.length : Nat) : Int)) = (c : Int) ∧ c ≤ 61 ∧ xs.length + c = 61 := ⟨61 - xs.length, by omega, by omega, by omega⟩
    dsimp only
    rw [ec]
    refine ⟨q3, _, [.ref q2], rfl, rfl, m3, (by omega), (by simp; omega), (Nat.le_of_lt (small1000 (by simp only [List.length_cons, List.length_nil, Int.toNat_natCast]; omega))), fun q4 hq4 => ?_⟩
    have y4 := same_new hq4 (.lst (List.replicate (Int.toNat (c : Int)) [.ref q2]).flatten)
    have m4 : (upd J3 q4 (.lst (List.replicate (Int.toNat (c : Int)) [.ref q2]).flatten)) q4 = some (.lst (List.replicate c (V.ref q2))) := by rw [upd_same, rep_flat1]; rfl
    generalize upd J3 q4 (.lst (List.replicate (Int.toNat (c : Int)) [.ref q2]).flatten) = J4 at y4 m4 ⊢
    have e4 := e2.keep (y3.trans y4)
    have x4 := x3.trans y4
    refine ⟨lb, q4, _, _, rfl, rfl, x4 _ _ hlb, m4, Nat.le_of_lt (small1000 (by simp only [List.length_replicate]; omega)), fun q5 hq5 => ?_⟩
    have y5 := same_new hq5 (.lst (xs ++ List.replicate c (V.ref q2)))
    have m5 : DV K (upd J4 q5 (.lst (xs ++ List.replicate c (V.ref q2)))) (.ref q5) (.list (ps.map pcD ++ List.replicate c (.tuple [.str "gap", .tuple [.int 1, .int 1]]))) := .lst (SqL.of upd_same) ((hxs.keep (x4.trans y5)).append (dvs_repl (e4.keep y5) c))
    have x5 := x4.trans y5
    generalize upd J4 q5 (.lst (xs ++ List.replicate c (V.ref q2))) = J5 at m5 x5 ⊢
    refine ⟨(by show 3 ≤ sizeLine; decide), fun q6 hq6 => ?_⟩
    have y6 := same_new hq6 (.lst [.non, .ref p1', .ref q5])
    have l6 : (upd J5 q6 (.lst [.non, .ref p1', .ref q5])) q6 = some (.lst [.non, .ref p1', .ref q5]) := upd_same
    have all3 : DVs K (upd J5 q6 (.lst [.non, .ref p1', .ref q5])) [.non, .ref p1', .ref q5] [.none, .tuple (ps.map pcD), .list (ps.map pcD ++ List.replicate c (.tuple [.str "gap", .tuple [.int 1, .int 1]]))] := .cons .non (.cons (m1.keep (x5.trans y6)) (.cons (m5.keep y6) .nil))
    have w6 := w1.trans (x5.trans y6)
    generalize upd J5 q6 (.lst [.non, .ref p1', .ref q5]) = J6 at l6 all3 w6 ⊢
    have h4 : ¬ z % 7 < 4 := of_decide_eq_false (Bool.not_eq_true _ ▸ h4)
    obtain ⟨ov, hov, hmo⟩ := atI_in (xs := [(.non : V), .ref p1', .ref q5]) (r := z % 7 - 4) (by omega) (by simp only [List.length_cons, List.length_nil]; omega)
    refine ⟨_, rfl, _, _, rfl, rfl, (by show (0 : Int) < 7; decide), _, _, rfl, rfl, q6, _, _, ov, rfl, rfl, SqL.of l6, hov, ?_⟩
    obtain ⟨oi, hoi⟩ := List.getElem?_of_mem hmo
    obtain ⟨od, hod, hox⟩ := all3.get hoi
    have rb : RefB od none := by
      have hod := List.mem_of_getElem? hod
      simp only [List.mem_cons, List.not_mem_nil, or_false] at hod
      rcases hod with rfl | rfl | rfl
      · exact .inl ⟨.inl rfl, rfl⟩
      · exact .inl ⟨.inl rfl, rfl⟩
      · exact .inl ⟨.inr ⟨_, rfl, by rw [List.length_append, List.length_map, List.length_replicate]; omega⟩, rfl⟩
    refine ⟨(by show 2 ≤ sizeLine; decide), fun q7 hq7 => ?_⟩
    have y7 := same_new hq7 (.tup [ov, .non])
    exact q q7 ov _ _ none (w6.trans y7) (SqT.of upd_same) (hox.keep y7) rb
end
end K42
namespace K42
open PySem L2 Lib Fr Op
seal PE PT PW PA PS PSs PG PGs PI PO PIfs
local macro_rules | `(tactic| walk_at "Zs") => `(tactic| first | with_reducible assumption | with_reducible exact Same.refl _ | exact zs1 (by with_reducible assumption) (by walk_at "Zs") | exact zs2 (by with_reducible assumption) (by walk_at "Zs"))
local macro_rules | `(tactic| walk_at "Zd") => `(tactic| first | with_reducible assumption | with_reducible exact DV.int _ | with_reducible exact DV.str _ | with_reducible exact DV.bl _ | with_reducible exact DV.non | exact zd1 (by first | with_reducible assumption | assumption) (by walk_at "Zs") | with_reducible exact dN (by assumption) _ | with_reducible exact dO (by assumption) _ | exact zd2 (by with_reducible assumption) (by walk_at "Zs") (by walk_at "Zd") (by walk_at "Zd") | exact zd3 (by with_reducible assumption) (by walk_at "Zs") (by walk_at "Zd") (by walk_at "Zd") (by walk_at "Zd") | exact zd4 (by with_reducible assumption) (by walk_at "Zs") (by walk_at "Zd") (by walk_at "Zd") (by walk_at "Zd") (by walk_at "Zd"))
local macro_rules | `(tactic| walk_at "Zt") => `(tactic| first | assumption | exact zt1 (by assumption) (by walk_at "Zs") | exact zt2 (by walk_at "Zs"))
local macro_rules | `(tactic| walk_at "Zl") => `(tactic| first | assumption | exact zl1 (by assumption) (by walk_at "Zs") | exact zl2 (by walk_at "Zs"))
local macro_rules | `(tactic| walk_at "Zv") => `(tactic| first | exact DVs.nil | exact DVs.cons (by walk_at "Zd") (by walk_at "Zv"))
local macro_rules | `(tactic| walk_at "Zb") => `(tactic| first | with_reducible assumption | exact bd_zero 1 (by decide) | exact bd_one 1 (by decide) | with_reducible exact Bd.mul (by walk_at "Zb") (by walk_at "Zb") | with_reducible exact Bd.add (by walk_at "Zb") (by walk_at "Zb") | with_reducible exact Bd.sub (by walk_at "Zb") (by walk_at "Zb") | with_reducible exact Tb.a (by with_reducible assumption) | with_reducible exact Tb.b (by with_reducible assumption) | with_reducible exact Tb.c (by with_reducible assumption) | with_reducible exact Tb.d (by with_reducible assumption) | with_reducible exact Rb.y (by with_reducible assumption) | with_reducible exact Rb.u (by with_reducible assumption))
local macro_rules | `(tactic| walk_at "Zm") => `(tactic| first | with_reducible assumption | with_reducible exact Sm.zero | with_reducible exact Sm.one | exact Bd.sm (by walk_at "Zb") (by first | decide | omega))
local macro_rules | `(tactic| walk_at "Zr") => `(tactic| first | exact ⟨_, _, rfl, by walk_at "Zm", by walk_at "Zm", rfl⟩ | exact ⟨_, _, rfl, by walk_at "Zm", by walk_at "Zm", by assumption, rfl⟩)
local macro_rules | `(tactic| walk_at "Zc") => `(tactic| (refine ⟨_, _, by walk_at "Zv", by walk_at "Zr", fun v H' s hv => ?_⟩; (first | (obtain rfl := DV.bl_of hv) | (have := (show DV _ _ _ (frD _) from hv); clear this) | (obtain ⟨a, x1, x2, x3, x4, rfl, ha, h1, h2, h3, h4⟩ := DV.t4 hv) | (obtain ⟨a, x1, x2, x3, rfl, ha, h1, h2, h3⟩ := DV.t3 hv) | (obtain ⟨a, x1, x2, rfl, ha, h1, h2⟩ := DV.t2 hv) | skip)))
local macro_rules | `(tactic| walk_at "Zp") => `(tactic| first | refine ⟨by (show 2 ≤ sizeLine; decide), fun p hp => ?_⟩ | refine ⟨by (show 3 ≤ sizeLine; decide), fun p hp => ?_⟩ | refine ⟨by (show 4 ≤ sizeLine; decide), fun p hp => ?_⟩)
local macro_rules | `(tactic| walk_at "Zn") => `(tactic| first | refine ⟨_, rfl, ?_⟩ | refine ⟨_, _, _, _, rfl, rfl, by walk_at "Zt", by rfl, ?_⟩ | refine ⟨_, _, rfl, rfl, ?_⟩)
local macro_rules | `(tactic| walk_at "Z1") => `(tactic| first | walk_at "Zn" | walk_at "Zp" | walk_at "Zc" | refine iteF ?_ | refine iteT ?_)
local macro_rules | `(tactic| walk_at "Z") => `(tactic| repeat walk_at "Z1")
section
variable {P : Program} {w : World} {K : PySem.W.Frag} {mg : Str → Option Value} {base : Heap} {ad : Adr} {c : Bool}
theorem ok_law (T : Txt K mg ad) {fa : Addr} {fd : FuncData} (F : Fun K "law" "law" s_law fa fd) : FnB P w K mg base true 11 fa fd ["_law_script"] (spLaw K) := by
  have C__law_cell_at := c__law_cell_at (P := P) (w := w) (base := base) T
  have C__law_box := c__law_box (P := P) (w := w) (base := base) T
  have C__law_bench := c__law_bench (P := P) (w := w) (base := base) T
  have C_field_of := c_field_of (P := P) (w := w) (base := base) T
  have C_limits_of := c_limits_of (P := P) (w := w) (base := base) T
  have C__law_wrong := c__law_wrong (P := P) (w := w) (base := base) T
  have C__law_refused := c__law_refused (P := P) (w := w) (base := base) T
  have C__law_no_bench := c__law_no_bench (P := P) (w := w) (base := base) T
  refine F.okB sc_law (fun vs H Q E h => ?_) (fun cdv A outer s H vs Q E hr h => ?_)
  · obtain ⟨a, ns, rfl, _⟩ := h; rfl
  obtain ⟨a, ns, rfl, hS, h63, q⟩ := h
  refine ⟨_, (pss_cons (ps_set (i := 1) sc_law.nd rfl (Or.inl rfl) (pe_cB C__law_bench (hr.mono (by decide)) pass01 (pa_sub (pe_slice sl_list (pv 0) po_none (po_some pe_int)) pa_nil))) (pss_cons (ps_set (i := 2) sc_law.nd rfl (Or.inl rfl) (pe_cB C__law_box (hr.mono (by decide)) pass01 (pa_call (pe_cB C__law_cell_at (hr.mono (by decide)) pass01 (pa_name (pv 0) (pa_const pe_int pa_nil))) (pa_call (pe_cB C__law_cell_at (hr.mono (by decide)) pass01 (pa_name (pv 0) (pa_const pe_int pa_nil))) pa_nil)))) (pss_cons (ps_set (i := 3) sc_law.nd rfl (Or.inl rfl) (pe_lst (pa_call (pe_cB C_field_of (hr.mono (by decide)) pass01 (pa_name (pv 1) (pa_name (pv 2) pa_nil))) (pa_call (pe_cB C_limits_of (hr.mono (by decide)) pass01 (pa_name (pv 1) pa_nil)) pa_nil)))) (pss_cons (ps_for PassesOwn.never rfl (pi_list (pe_op op_cat (pe_slice sl_list (pv 0) po_none (po_some pe_int)) (pe_lst (pa_call (pe_callB call_len_seq rfl T.len bt_len (pa_name (pv 0) pa_nil)) pa_nil)))) (pg_name (i := 4) sc_law.nd rfl (by first | exact Or.inl rfl | exact Or.inr rfl)) (pss_cons (ps_set (i := 5) sc_law.nd rfl (Or.inl rfl) (pe_cB C__law_wrong (hr.mono (by decide)) pass01 (pa_name (pv 2) (pa_bin (pe_op op_fdiv (pv 4) pe_int) pa_nil)))) (pss_cons (ps_if (pt_not (pt_val (pe_cB C__law_refused (hr.mono (by decide)) pass01 (pa_const pe_str (pa_name (pv 1) (pa_name (pv 5) (pa_const pe_str pa_nil))))))) (pss_one (ps_ret pe_bl)) pss_nil) (pss_cons (ps_asg (pe_cB C__law_no_bench (hr.mono (by decide)) pass01 (pa_name (pv 1) (pa_name (pv 4) pa_nil))) (pg_tup (n := 2) rfl (pgs_cons (pg_name (i := 6) sc_law.nd rfl (by first | exact Or.inl rfl | exact Or.inr rfl)) (pgs_cons (pg_name (i := 7) sc_law.nd rfl (by first | exact Or.inl rfl | exact Or.inr rfl)) pgs_nil)))) (pss_cons (ps_if (pt_not (pt_val (pe_cB C__law_refused (hr.mono (by decide)) pass01 (pa_const pe_str (pa_name (pv 6) (pa_sub (pe_ix ix_list (pe_lst (pa_name (pv 2) (pa_name (pv 5) pa_nil))) (pe_op op_mod (pe_op op_fdiv (pv 4) pe_int) pe_int) (fun _ _ => rfl)) (pa_tuple (pe_tup (pa_name (pv 7) pa_nil)) pa_nil))))))) (pss_one (ps_ret pe_bl)) pss_nil) (pss_one (ps_if (pt_not (pt_val (pe_cB C__law_refused (hr.mono (by decide)) pass01 (pa_const pe_str (pa_name (pv 6) (pa_name (pv 2) (pa_tuple (pe_tup (pa_name (pv 7) pa_nil)) pa_nil))))))) (pss_one (ps_ret pe_bl)) pss_nil))))))) (pss_one (ps_ret (pe_cmpR (op_eqD hr.units) (pe_lst (pa_call (pe_cB C_field_of (hr.mono (by decide)) pass01 (pa_name (pv 1) (pa_name (pv 2) pa_nil))) (pa_call (pe_cB C_limits_of (hr.mono (by decide)) pass01 (pa_name (pv 1) pa_nil)) pa_nil))) (pv 3) (nomark _)))))))), ?_⟩
  obtain ⟨ms, ems⟩ := cut_map ns none (some 8)
  have hms : ms.length ≤ 8 := by
    have h := cutV_le0 (ns.map V.int) 8
    change (cutV (ns.map V.int) none (some 8)).length ≤ _ at h
    rw [ems, List.length_map] at h
    exact h
  refine ⟨_, rfl, _, rfl, a, _, rfl, hS, fun p hp => ?_⟩
  rw [ems]
  refine ⟨p, ms, rfl, SqL.of upd_same, by omega, fun lb H1 xs ps s1 nb hlb hxs hpl ok fd => ?_⟩
  have t1 := (same_new hp (.lst (ms.map V.int))).trans s1
  have l8 : ps.length ≤ 8 := by omega
  refine ⟨_, rfl, a, ns, 8, rfl, hS.keep t1, by decide, fun z8 => ?_⟩
  refine ⟨_, rfl, a, ns, 9, rfl, hS.keep t1, by decide, fun z9 => ?_⟩
  refine ⟨z8, z9, rfl, fun bv H2 x s2 hbv xo xb => ?_⟩
  have t2 := t1.trans s2
  have g := good_fd ok fd (by omega)
  have fo := field_fd fd (by omega) xo xb
  have hb : ∀ {H'}, Same H1 H' → DV K H' (.ref lb) (benchD ps) := fun s' => .lst (SqL.of (s' _ _ hlb)) (hxs.keep s')
  refine ⟨_, rfl, _, rfl, .ref lb, bv, ps, x, 15, 58, 15, rfl, hb s2, hbv, g, by omega, fo, by decide, fun lc rs H3 s3 nc hlc hrs => ?_⟩
  have hc3 : DV K H3 (.ref lc) (raysD (fieldR (lims ps) x)) := .lst (SqL.of hlc) hrs
  refine ⟨_, rfl, .ref lb, ps, 15, rfl, hb (s2.trans s3), g, by omega, fun ll ls H4 s4 nl hll hls => ?_⟩
  have hl4 : DV K H4 (.ref ll) (limsD (lims ps)) := .lst (SqL.of hll) hls
  refine ⟨(by show 2 ≤ sizeLine; decide), fun p5 hp5 => ?_⟩
  have u5 := same_new hp5 (.lst [.ref lc, .ref ll])
  have d5 : DV K (upd H4 p5 (.lst [.ref lc, .ref ll])) (.ref p5) (.list [raysD (fieldR (lims ps) x), limsD (lims ps)]) := .lst (SqL.of upd_same) (.cons (hc3.keep (s4.trans u5)) (.cons (hl4.keep u5) .nil))
  have t5 := s3.trans (s4.trans u5)
  generalize upd H4 p5 (.lst [.ref lc, .ref ll]) = H5 at d5 t5 ⊢
  have w5 := s2.trans t5
  -- the cells
  obtain ⟨ks, eks⟩ := cut_map ns none (some 12)
  have hks : ks.length ≤ 12 := by
    have h := cutV_le0 (ns.map V.int) 12
    change (cutV (ns.map V.int) none (some 12)).length ≤ _ at h
    rw [eks, List.length_map] at h
    exact h
  refine ⟨_, rfl, _, rfl, a, _, rfl, hS.keep (t1.trans w5), fun p6 hp6 => ?_⟩
  rw [eks]
  have u6 := same_new hp6 (.lst (ks.map V.int))
  have l6 : (upd H5 p6 (.lst (ks.map V.int))) p6 = some (.lst (ks.map V.int)) := upd_same
  generalize upd H5 p6 (.lst (ks.map V.int)) = H6 at u6 l6 ⊢
  refine ⟨_, rfl, a, _, rfl, .inl (hS.keep (t1.trans (w5.trans u6))), (by show 1 ≤ sizeLine; decide), fun p7 hp7 => ?_⟩
  have u7 := same_new hp7 (.lst [.int (((ns.map V.int).length : Nat) : Int)])
  have l7 : (upd H6 p7 (.lst [.int (((ns.map V.int).length : Nat) : Int)])) p7 = some (.lst [.int (((ns.map V.int).length : Nat) : Int)]) := upd_same
  generalize upd H6 p7 (.lst [.int (((ns.map V.int).length : Nat) : Int)]) = H7 at u7 l7 ⊢
  generalize (((ns.map V.int).length : Nat) : Int) = nn at l7 ⊢
  refine ⟨p6, p7, _, _, rfl, rfl, u7 _ _ l6, l7, Nat.le_of_lt (small1000 (by simp only [List.length_map, List.length_cons, List.length_nil]; omega)), fun p8 hp8 => ?_⟩
  have u8 := same_new hp8 (.lst (ks.map V.int ++ [.int nn]))
  have l8' : (upd H7 p8 (.lst (ks.map V.int ++ [.int nn]))) p8 = some (.lst ((ks ++ [nn]).map V.int)) := by rw [upd_same, List.map_append]; rfl
  have t8 := w5.trans (u6.trans (u7.trans u8))
  have d8 := d5.keep (u6.trans (u7.trans u8))
  have hb8 := hbv.keep (t5.trans (u6.trans (u7.trans u8)))
  generalize upd H7 p8 (.lst (ks.map V.int ++ [.int nn])) = H8 at l8' t8 d8 hb8 ⊢
  refine ⟨p8, rfl, ⟨_, SqL.of l8'⟩, ?_⟩
  refine for_list (K := K) (a := p8) (xs := (ks ++ [nn]).map V.int) (fun i σ H' => ∃ (c4 c5 c6 c7 : Option V), σ = [some (.ref a), some (.ref lb), some bv, some (.ref p5), c4, c5, c6, c7] ∧ Same H8 H') ⟨_, _, _, _, rfl, Same.refl _⟩ ?_ ?_ ?_
  · rintro i σ H' hi ⟨c4, c5, c6, c7, rfl, s'⟩
    exact SqL.of (s' _ _ l8')
  · rintro i y σ H' hi ⟨c4, c5, c6, c7, rfl, s'⟩
    obtain ⟨z, _, rfl⟩ := List.mem_map.mp (List.mem_of_getElem? hi)
    have w' := t8.trans s'
    refine ⟨_, rfl, _, rfl, _, _, rfl, rfl, ⟨by decide, by decide⟩, bv, x, _, rfl, hb8.keep s', xo, xb, fun wv wd Ha sa hwv wbad => ?_⟩
    refine ⟨_, rfl, _, rfl, _, _, _, _, rfl, .inr ⟨ps, wd, rfl, hb (w'.trans sa), hwv, g, l8, wbad, rfl⟩, fun Hb sb => ⟨_, rfl, iteF ?_⟩⟩
    have w1 := s'.trans (sa.trans sb)
    have w2 := t8.trans w1
    refine ⟨_, rfl, _, rfl, lb, xs, ps, z, rfl, w2 _ _ hlb, hxs.keep w2, g, l8, fun t sv Hc d o sc ht hsv rb => ?_⟩
    refine ⟨t, _, rfl, ht, rfl, sv, _, rfl, _, _, rfl, rfl, ?_⟩
    have w3 := w1.trans sc
    refine ⟨_, rfl, _, rfl, _, rfl, (by show 2 ≤ sizeLine; decide), fun p9 hp9 => ?_⟩
    have u9 := same_new hp9 (.lst [bv, wv])
    have l9 : (upd Hc p9 (.lst [bv, wv])) p9 = some (.lst [bv, wv]) := upd_same
    have hsv := hsv.keep u9
    have w4 := w3.trans u9
    generalize upd Hc p9 (.lst [bv, wv]) = Hd at l9 hsv w4 ⊢
    obtain ⟨ov, hov, _⟩ := atI_in (xs := [bv, wv]) (r := z / 5 % 2) (by omega) (by simp only [List.length_cons, List.length_nil]; omega)
    refine ⟨_, rfl, _, _, rfl, rfl, ⟨by decide, by decide⟩, _, _, rfl, rfl, (by show (0 : Int) < 2; decide), p9, _, _, ov, rfl, rfl, SqL.of l9, hov, ?_⟩
    refine ⟨_, rfl, (by show 1 ≤ sizeLine; decide), fun pa hpa => ?_⟩
    have ua := same_new hpa (.tup [atV o])
    have ta : SqT K (upd Hd pa (.tup [atV o])) pa [atV o] := SqT.of upd_same
    have hsv := hsv.keep ua
    have w5 := w4.trans ua
    generalize upd Hd pa (.tup [atV o]) = He at ta hsv w5 ⊢
    refine ⟨_, _, _, _, rfl, .inl ⟨d, o, pa, .inr rfl, hsv, rb, rfl, ta⟩, fun Hf sf => ⟨_, rfl, iteF ?_⟩⟩
    have hsv := hsv.keep sf
    have w6 := w5.trans sf
    refine ⟨_, rfl, _, rfl, _, rfl, (by show 1 ≤ sizeLine; decide), fun pb hpb => ?_⟩
    have ub := same_new hpb (.tup [atV o])
    refine ⟨_, _, _, _, rfl, .inl ⟨d, o, pb, .inl rfl, hsv.keep ub, rb, rfl, SqT.of upd_same⟩, fun Hg sg => ⟨_, rfl, iteF ?_⟩⟩
    exact ⟨_, _, _, _, rfl, w6.trans (ub.trans sg)⟩
  · rintro σ H' ⟨c4, c5, c6, c7, rfl, s'⟩
    have w' := t8.trans s'
    have hbx := hb8.keep s'
    refine ⟨_, rfl, _, rfl, .ref lb, bv, ps, x, 15, 58, 15, rfl, hb w', hbx, g, by omega, fo, by decide, fun lc2 rs2 Ha sa nc2 hlc2 hrs2 => ?_⟩
    have hca : DV K Ha (.ref lc2) (raysD (fieldR (lims ps) x)) := .lst (SqL.of hlc2) hrs2
    refine ⟨_, rfl, .ref lb, ps, 15, rfl, hb (w'.trans sa), g, by omega, fun ll2 ls2 Hb sb nl2 hll2 hls2 => ?_⟩
    have hlb' : DV K Hb (.ref ll2) (limsD (lims ps)) := .lst (SqL.of hll2) hls2
    refine ⟨(by show 2 ≤ sizeLine; decide), fun pc hpc => ?_⟩
    have uc := same_new hpc (.lst [.ref lc2, .ref ll2])
    have dc : DV K (upd Hb pc (.lst [.ref lc2, .ref ll2])) (.ref pc) (.list [raysD (fieldR (lims ps) x), limsD (lims ps)]) := .lst (SqL.of upd_same) (.cons (hca.keep (sb.trans uc)) (.cons (hlb'.keep uc) .nil))
    refine ⟨_, rfl, eq_same dc (d8.keep (s'.trans (sa.trans (sb.trans uc)))) (flat_lst (n := 3) fun d hd => ?_) ?_⟩
    · simp only [List.mem_cons, List.not_mem_nil, or_false] at hd
      rcases hd with rfl | rfl
      · exact flat_lst (flat_map flat_ray _)
      · exact flat_lims _
    · exact q _
theorem law_fd {fa : Addr} (F : TopFn K mg "law" s_law) (hmg : mg "law" = some (.ref fa)) : ∃ fd, Fun K "law" "law" s_law fa fd ∧ ∀ (s : Shared) (u : Value), BindsTo s fd ⟨[u], []⟩ [("_law_script", u)] := by
  obtain ⟨f, fd, F, hm⟩ := F.ex
  cases hmg.symm.trans hm
  obtain ⟨oc, od, kV, doc, pm, an, cdv, ct, osl, rfl, l, c⟩ := id F.ex
  exact ⟨_, F, fun s u => .of_eq rfl⟩
end
end K42
namespace K42
open PySem L2 Lib
theorem walk {l : PySem.W.OpenLaw} {q : Program} {loose : List Str} {XP : (Str → Option Value) → Heap → Prop} {YP : World → Heap → Prop} {d : DefRec} {K : Params → PySem.W.Frag} (hn : l.most = some 63) (hdf : d.params.defaults = [])
    (hY : ∀ (w : World) (h : Heap), YP w h → (K w.params).In h)
    (F : ∀ (w : World) (mg : Str → Option Value) (fa : Addr) (h : Heap), (K w.params).In h → h.Ns mainGlobals mg → mg d.name = some (.ref fa) →
      ∃ fd : FuncData, (∀ (s : Shared) (u : Value), BindsTo s fd ⟨[u], []⟩ [("_law_script", u)]) ∧ ∀ base : Heap, (K w.params).In base → base.Ns mainGlobals mg → FnOk l.prog w (K w.params) mg base (CX1 l.prog w) 11 fa fd ["_law_script"] (spLaw (K w.params))) :
    PySem.W.WalkO q loose XP YP l.row.toRowW d [] (fun f vs => PySem.call f vs) :=
  L2.walk_of (n := 63) (k := 11) (x := "_law_script") (CX := fun w => CX1 l.prog w) (sp := fun w => spLaw (K w.params)) hn (by decide) hdf ⟨rfl, by decide, by decide⟩ hY F (fun _ _ a ns hl _ hS => ⟨a, ns, rfl, hS, hl, fun _ => rfl⟩) fun _ _ _ _ _ z => by
    obtain ⟨_, _, _, _, _, _, _, _, _, _, _, _, q⟩ := z
    exact q
end K42
def PySem.W.Fast.tw4918454895158380931 : Unit := ()
def PySem.W.Fast.tw3950294898328531334 : Unit := ()
def PySem.W.Fast.tw9174757129677321442 : Unit := ()
def PySem.W.Fast.tw7768918796960609311 : Unit := ()
def PySem.W.Fast.tw12135026630333778346 : Unit := ()
def PySem.W.Fast.tw8467425295425875014 : Unit := ()
def PySem.W.Fast.tw18350397883144337778 : Unit := ()
def PySem.W.Fast.tw569210324715656561 : Unit := ()
def PySem.W.Fast.tw12355630449017693636 : Unit := ()
def PySem.W.Fast.tw12186255160060694641 : Unit := ()
def PySem.W.Fast.tw12418179661732304779 : Unit := ()
def PySem.W.Fast.tw5873375896857894195 : Unit := ()
def PySem.W.Fast.tw7293107411303844777 : Unit := ()
def PySem.W.Fast.tw2237289248168987621 : Unit := ()
def PySem.W.Fast.tw7739869281954789639 : Unit := ()
def PySem.W.Fast.tw12428719686290019706 : Unit := ()
def PySem.W.Fast.tw2895574756620278441 : Unit := ()
def PySem.W.Fast.tw8489093229745852833 : Unit := ()
def PySem.W.Fast.tw13586243797524427222 : Unit := ()
def PySem.W.Fast.tw14870235732577140846 : Unit := ()
def PySem.W.Fast.tw3587300256537436292 : Unit := ()
def PySem.W.Fast.tw9813445832860195438 : Unit := ()
def PySem.W.Fast.tw17731358843906189652 : Unit := ()
def PySem.W.Fast.tw16806626362254753204 : Unit := ()
def PySem.W.Fast.tw15190345994428429701 : Unit := ()
def PySem.W.Fast.tw13734581601479841744 : Unit := ()
def PySem.W.Fast.tw4840516569630218148 : Unit := ()
def PySem.W.Fast.tw16018196055278787377 : Unit := ()
def PySem.W.Fast.tw695761192582968930 : Unit := ()
def PySem.W.Fast.tw10293630854095500801 : Unit := ()
def PySem.W.Fast.tw1527572237980993229 : Unit := ()
def PySem.W.Fast.tw288963261515640028 : Unit := ()
def PySem.W.Fast.tw2090056742939759821 : Unit := ()
def PySem.W.Fast.tw603955419367692520 : Unit := ()
def PySem.W.Fast.tw9684156127820357357 : Unit := ()
def PySem.W.Fast.tw16239099757269505192 : Unit := ()
def PySem.W.Fast.tw4829797945533927479 : Unit := ()
def PySem.W.Fast.tw16120688194723940971 : Unit := ()
def PySem.W.Fast.tw13582361816583335068 : Unit := ()
def PySem.W.Fast.tw16939627921201983993 : Unit := ()
def PySem.W.Fast.tw10793857853107526099 : Unit := ()
def PySem.W.Fast.tw17258865955077429411 : Unit := ()
def PySem.W.Fast.tw628722090407262119 : Unit := ()
def PySem.W.Fast.tw2497264960417675764 : Unit := ()
def PySem.W.Fast.tw9942413083152796228 : Unit := ()
def PySem.W.Fast.tw4557596657960566348 : Unit := ()
def PySem.W.Fast.tw14081518922110618159 : Unit := ()
def PySem.W.Fast.tw10870046637827253740 : Unit := ()
def PySem.W.Fast.tw16342696875661807547 : Unit := ()
open PySem PySem.W PyProof.Rows
set_option maxRecDepth 100000 in
set_option maxHeartbeats 0 in
theorem PySem.Challenge.cw_grindbench_k42_boxes_refused_holds : PySem.Challenge.rw_grindbench_k42_boxes_refused.Holds := by
  w_on; o_law; k_head; (case hw => w_witness2)
  k_fill
  refine K42.walk (l := PySem.Challenge.rw_grindbench_k42_boxes_refused) rfl rfl (fun w h Y => PySem.W.kIn_of Y) ?F
  case F =>
    intro w mg fa h KX G hmg
    have t_is_whole : L2.TopFn (L2.KOf KX) mg "is_whole" K42.s_is_whole := by
      dsimp only [L2.KOf]
      refine' L2.topFn_mk KX G ?a ?l ?c ?k
      (case a => k_is); (case l => k_is); (case c => k_is); (case k => k_is)
    have t_common_divisor : L2.TopFn (L2.KOf KX) mg "common_divisor" K42.s_common_divisor := by
      dsimp only [L2.KOf]
      refine' L2.topFn_mk KX G ?a ?l ?c ?k
      (case a => k_is); (case l => k_is); (case c => k_is); (case k => k_is)
    have t_is_ratio : L2.TopFn (L2.KOf KX) mg "is_ratio" K42.s_is_ratio := by
      dsimp only [L2.KOf]
      refine' L2.topFn_mk KX G ?a ?l ?c ?k
      (case a => k_is); (case l => k_is); (case c => k_is); (case k => k_is)
    have t_ratio_of : L2.TopFn (L2.KOf KX) mg "ratio_of" K42.s_ratio_of := by
      dsimp only [L2.KOf]
      refine' L2.topFn_mk KX G ?a ?l ?c ?k
      (case a => k_is); (case l => k_is); (case c => k_is); (case k => k_is)
    have t_sum_of : L2.TopFn (L2.KOf KX) mg "sum_of" K42.s_sum_of := by
      dsimp only [L2.KOf]
      refine' L2.topFn_mk KX G ?a ?l ?c ?k
      (case a => k_is); (case l => k_is); (case c => k_is); (case k => k_is)
    have t_less_by : L2.TopFn (L2.KOf KX) mg "less_by" K42.s_less_by := by
      dsimp only [L2.KOf]
      refine' L2.topFn_mk KX G ?a ?l ?c ?k
      (case a => k_is); (case l => k_is); (case c => k_is); (case k => k_is)
    have t_product_of : L2.TopFn (L2.KOf KX) mg "product_of" K42.s_product_of := by
      dsimp only [L2.KOf]
      refine' L2.topFn_mk KX G ?a ?l ?c ?k
      (case a => k_is); (case l => k_is); (case c => k_is); (case k => k_is)
    have t_quotient_of : L2.TopFn (L2.KOf KX) mg "quotient_of" K42.s_quotient_of := by
      dsimp only [L2.KOf]
      refine' L2.topFn_mk KX G ?a ?l ?c ?k
      (case a => k_is); (case l => k_is); (case c => k_is); (case k => k_is)
    have t_is_less : L2.TopFn (L2.KOf KX) mg "is_less" K42.s_is_less := by
      dsimp only [L2.KOf]
      refine' L2.topFn_mk KX G ?a ?l ?c ?k
      (case a => k_is); (case l => k_is); (case c => k_is); (case k => k_is)
    have t_is_stretch : L2.TopFn (L2.KOf KX) mg "is_stretch" K42.s_is_stretch := by
      dsimp only [L2.KOf]
      refine' L2.topFn_mk KX G ?a ?l ?c ?k
      (case a => k_is); (case l => k_is); (case c => k_is); (case k => k_is)
    have t_is_box : L2.TopFn (L2.KOf KX) mg "is_box" K42.s_is_box := by
      dsimp only [L2.KOf]
      refine' L2.topFn_mk KX G ?a ?l ?c ?k
      (case a => k_is); (case l => k_is); (case c => k_is); (case k => k_is)
    have t_look_at_box : L2.TopFn (L2.KOf KX) mg "look_at_box" K42.s_look_at_box := by
      dsimp only [L2.KOf]
      refine' L2.topFn_mk KX G ?a ?l ?c ?k
      (case a => k_is); (case l => k_is); (case c => k_is); (case k => k_is)
    have t_is_piece : L2.TopFn (L2.KOf KX) mg "is_piece" K42.s_is_piece := by
      dsimp only [L2.KOf]
      refine' L2.topFn_mk KX G ?a ?l ?c ?k
      (case a => k_is); (case l => k_is); (case c => k_is); (case k => k_is)
    have t_piece_of : L2.TopFn (L2.KOf KX) mg "piece_of" K42.s_piece_of := by
      dsimp only [L2.KOf]
      refine' L2.topFn_mk KX G ?a ?l ?c ?k
      (case a => k_is); (case l => k_is); (case c => k_is); (case k => k_is)
    have t_look_at : L2.TopFn (L2.KOf KX) mg "look_at" K42.s_look_at := by
      dsimp only [L2.KOf]
      refine' L2.topFn_mk KX G ?a ?l ?c ?k
      (case a => k_is); (case l => k_is); (case c => k_is); (case k => k_is)
    have t_limits_of : L2.TopFn (L2.KOf KX) mg "limits_of" K42.s_limits_of := by
      dsimp only [L2.KOf]
      refine' L2.topFn_mk KX G ?a ?l ?c ?k
      (case a => k_is); (case l => k_is); (case c => k_is); (case k => k_is)
    have t_is_before : L2.TopFn (L2.KOf KX) mg "is_before" K42.s_is_before := by
      dsimp only [L2.KOf]
      refine' L2.topFn_mk KX G ?a ?l ?c ?k
      (case a => k_is); (case l => k_is); (case c => k_is); (case k => k_is)
    have t_corners_of : L2.TopFn (L2.KOf KX) mg "corners_of" K42.s_corners_of := by
      dsimp only [L2.KOf]
      refine' L2.topFn_mk KX G ?a ?l ?c ?k
      (case a => k_is); (case l => k_is); (case c => k_is); (case k => k_is)
    have t_edges_of : L2.TopFn (L2.KOf KX) mg "edges_of" K42.s_edges_of := by
      dsimp only [L2.KOf]
      refine' L2.topFn_mk KX G ?a ?l ?c ?k
      (case a => k_is); (case l => k_is); (case c => k_is); (case k => k_is)
    have t_room_at : L2.TopFn (L2.KOf KX) mg "room_at" K42.s_room_at := by
      dsimp only [L2.KOf]
      refine' L2.topFn_mk KX G ?a ?l ?c ?k
      (case a => k_is); (case l => k_is); (case c => k_is); (case k => k_is)
    have t_crossing_of : L2.TopFn (L2.KOf KX) mg "crossing_of" K42.s_crossing_of := by
      dsimp only [L2.KOf]
      refine' L2.topFn_mk KX G ?a ?l ?c ?k
      (case a => k_is); (case l => k_is); (case c => k_is); (case k => k_is)
    have t_cut_by : L2.TopFn (L2.KOf KX) mg "cut_by" K42.s_cut_by := by
      dsimp only [L2.KOf]
      refine' L2.topFn_mk KX G ?a ?l ?c ?k
      (case a => k_is); (case l => k_is); (case c => k_is); (case k => k_is)
    have t_from_the_least : L2.TopFn (L2.KOf KX) mg "from_the_least" K42.s_from_the_least := by
      dsimp only [L2.KOf]
      refine' L2.topFn_mk KX G ?a ?l ?c ?k
      (case a => k_is); (case l => k_is); (case c => k_is); (case k => k_is)
    have t_field_of : L2.TopFn (L2.KOf KX) mg "field_of" K42.s_field_of := by
      dsimp only [L2.KOf]
      refine' L2.topFn_mk KX G ?a ?l ?c ?k
      (case a => k_is); (case l => k_is); (case c => k_is); (case k => k_is)
    have t__law_cell_at : L2.TopFn (L2.KOf KX) mg "_law_cell_at" K42.s__law_cell_at := by
      dsimp only [L2.KOf]
      refine' L2.topFn_mk KX G ?a ?l ?c ?k
      (case a => k_is); (case l => k_is); (case c => k_is); (case k => k_is)
    have t__law_mix : L2.TopFn (L2.KOf KX) mg "_law_mix" K42.s__law_mix := by
      dsimp only [L2.KOf]
      refine' L2.topFn_mk KX G ?a ?l ?c ?k
      (case a => k_is); (case l => k_is); (case c => k_is); (case k => k_is)
    have t__law_ratio : L2.TopFn (L2.KOf KX) mg "_law_ratio" K42.s__law_ratio := by
      dsimp only [L2.KOf]
      refine' L2.topFn_mk KX G ?a ?l ?c ?k
      (case a => k_is); (case l => k_is); (case c => k_is); (case k => k_is)
    have t__law_stop : L2.TopFn (L2.KOf KX) mg "_law_stop" K42.s__law_stop := by
      dsimp only [L2.KOf]
      refine' L2.topFn_mk KX G ?a ?l ?c ?k
      (case a => k_is); (case l => k_is); (case c => k_is); (case k => k_is)
    have t__law_bench : L2.TopFn (L2.KOf KX) mg "_law_bench" K42.s__law_bench := by
      dsimp only [L2.KOf]
      refine' L2.topFn_mk KX G ?a ?l ?c ?k
      (case a => k_is); (case l => k_is); (case c => k_is); (case k => k_is)
    have t__law_box : L2.TopFn (L2.KOf KX) mg "_law_box" K42.s__law_box := by
      dsimp only [L2.KOf]
      refine' L2.topFn_mk KX G ?a ?l ?c ?k
      (case a => k_is); (case l => k_is); (case c => k_is); (case k => k_is)
    have t__law_wrong : L2.TopFn (L2.KOf KX) mg "_law_wrong" K42.s__law_wrong := by
      dsimp only [L2.KOf]
      refine' L2.topFn_mk KX G ?a ?l ?c ?k
      (case a => k_is); (case l => k_is); (case c => k_is); (case k => k_is)
    have t__law_no_bench : L2.TopFn (L2.KOf KX) mg "_law_no_bench" K42.s__law_no_bench := by
      dsimp only [L2.KOf]
      refine' L2.topFn_mk KX G ?a ?l ?c ?k
      (case a => k_is); (case l => k_is); (case c => k_is); (case k => k_is)
    have t__law_refused : L2.TopFn (L2.KOf KX) mg "_law_refused" K42.s__law_refused := by
      dsimp only [L2.KOf]
      refine' L2.topFn_mk KX G ?a ?l ?c ?k
      (case a => k_is); (case l => k_is); (case c => k_is); (case k => k_is)
    have t_law : L2.TopFn (L2.KOf KX) mg "law" K42.s_law := by
      dsimp only [L2.KOf]
      refine' L2.topFn_mk KX G ?a ?l ?c ?k
      (case a => k_is); (case l => k_is); (case c => k_is); (case k => k_is)
    have z_ValueError : mg "ValueError" = none := by
      refine' PySem.W.mg_none_of KX G ?a
      (case a => k_is)
    have z_abs : mg "abs" = none := by
      refine' PySem.W.mg_none_of KX G ?a
      (case a => k_is)
    have z_all : mg "all" = none := by
      refine' PySem.W.mg_none_of KX G ?a
      (case a => k_is)
    have z_bool : mg "bool" = none := by
      refine' PySem.W.mg_none_of KX G ?a
      (case a => k_is)
    have z_enumerate : mg "enumerate" = none := by
      refine' PySem.W.mg_none_of KX G ?a
      (case a => k_is)
    have z_int : mg "int" = none := by
      refine' PySem.W.mg_none_of KX G ?a
      (case a => k_is)
    have z_isinstance : mg "isinstance" = none := by
      refine' PySem.W.mg_none_of KX G ?a
      (case a => k_is)
    have z_len : mg "len" = none := by
      refine' PySem.W.mg_none_of KX G ?a
      (case a => k_is)
    have z_list : mg "list" = none := by
      refine' PySem.W.mg_none_of KX G ?a
      (case a => k_is)
    have z_str : mg "str" = none := by
      refine' PySem.W.mg_none_of KX G ?a
      (case a => k_is)
    have z_tuple : mg "tuple" = none := by
      refine' PySem.W.mg_none_of KX G ?a
      (case a => k_is)
    have X0 : ∃ ad, K42.Exc (L2.KOf KX) mg ad := by
      dsimp only [L2.KOf]
      refine' ⟨_, K42.exc_mk KX G ?m_BenchError ?m_NoNumber ?m_NoText ?m_NoTable ?m_NoBox ?m_NoStock ?m_NoWish ?m_NoRow ?m_Unknown ?m_NoBench ?m_Piece ?m_Gap ?m_Glass ?m_Stop ?m_GAP ?m_GLASS ?m_STOP ?m_MOST_PIECES ?o_NoBox ?x_NoBox_BenchError ?x_NoBench_BenchError ?k_NoBox_NoBench ?k_NoBox_NoBox ?k_NoBox_ValueError ?k_NoBox_NoNumber ?k_NoBox_NoRow ?k_NoBox_NoStock ?k_NoBox_NoTable ?k_NoBox_NoText ?k_NoBox_NoWish ?k_NoBox_Unknown ?k_NoBench_NoBench ?k_NoBench_NoBox ?k_NoBench_ValueError ?k_NoBench_NoNumber ?k_NoBench_NoRow ?k_NoBench_NoStock ?k_NoBench_NoTable ?k_NoBench_NoText ?k_NoBench_NoWish ?k_NoBench_Unknown ?ecl_NoBox ?ega_NoBox ?egt_NoBox ?eha_NoBox ?ehn_NoBox ?eht_NoBox ?ehm_NoBox ?ehb_NoBox ?ecl_NoBench ?ega_NoBench ?egt_NoBench ?eha_NoBench ?ehn_NoBench ?eht_NoBench ?ehm_NoBench ?ehb_NoBench ?pg_Gap ?hd_Gap ?po_Gap ?sa_Gap ?mk_Gap_init ?a_Gap_init ?fn_Gap_init ?kc_Gap_init ?l_Gap_init ?c_Gap_init ?kp_Gap_init ?a_Gap_bent ?fn_Gap_bent ?kp_Gap_bent ?l_Gap_bent ?c_Gap_bent ?n_Gap_length ?pg_Glass ?hd_Glass ?po_Glass ?sa_Glass ?mk_Glass_init ?a_Glass_init ?fn_Glass_init ?kc_Glass_init ?l_Glass_init ?c_Glass_init ?kp_Glass_init ?a_Glass_bent ?fn_Glass_bent ?kp_Glass_bent ?l_Glass_bent ?c_Glass_bent ?n_Glass_strength ?pg_Stop ?hd_Stop ?po_Stop ?sa_Stop ?mk_Stop_init ?a_Stop_init ?fn_Stop_init ?kc_Stop_init ?l_Stop_init ?c_Stop_init ?kp_Stop_init ?a_Stop_bent ?fn_Stop_bent ?kp_Stop_bent ?l_Stop_bent ?c_Stop_bent ?n_Stop_low ?n_Stop_high ?ob_NoBench_init ?o_cb_NoBench_init ?it_NoBench_init ?kp0_NoBench_init ?hm_NoBench_init ?hd_NoBench_init ?fn_NoBench_init ?sa_NoBench_init ?na_NoBench_init ?rd_NoBench_init ?fc_NoBench_init ?sg_NoBench_init ?l_NoBench_init ?c_NoBench_init ?kp_NoBench_init ?m_NOUGHT ?lk_NOUGHT ?m_ONE ?lk_ONE⟩
      (case m_BenchError => k_is); (case m_NoNumber => k_is); (case m_NoText => k_is); (case m_NoTable => k_is); (case m_NoBox => k_is); (case m_NoStock => k_is); (case m_NoWish => k_is); (case m_NoRow => k_is); (case m_Unknown => k_is); (case m_NoBench => k_is); (case m_Piece => k_is); (case m_Gap => k_is); (case m_Glass => k_is); (case m_Stop => k_is); (case m_GAP => k_is); (case m_GLASS => k_is); (case m_STOP => k_is); (case m_MOST_PIECES => k_is); (case o_NoBox => k_exc); (case x_NoBox_BenchError => kts_exm); (case x_NoBench_BenchError => kts_exm); (case k_NoBox_NoBench => kit_is); (case k_NoBox_NoBox => kit_is); (case k_NoBox_ValueError => kit_is); (case k_NoBox_NoNumber => kit_is); (case k_NoBox_NoRow => kit_is); (case k_NoBox_NoStock => kit_is); (case k_NoBox_NoTable => kit_is); (case k_NoBox_NoText => kit_is); (case k_NoBox_NoWish => kit_is); (case k_NoBox_Unknown => kit_is); (case k_NoBench_NoBench => kit_is); (case k_NoBench_NoBox => kit_is); (case k_NoBench_ValueError => kit_is); (case k_NoBench_NoNumber => kit_is); (case k_NoBench_NoRow => kit_is); (case k_NoBench_NoStock => kit_is); (case k_NoBench_NoTable => kit_is); (case k_NoBench_NoText => kit_is); (case k_NoBench_NoWish => kit_is); (case k_NoBench_Unknown => kit_is); (case ecl_NoBox => k_is); (case ega_NoBox => k_is); (case egt_NoBox => k_is); (case eha_NoBox => k_is); (case ehn_NoBox => k_is); (case eht_NoBox => k_is); (case ehm_NoBox => k_is); (case ehb_NoBox => k_is); (case ecl_NoBench => k_is); (case ega_NoBench => k_is); (case egt_NoBench => k_is); (case eha_NoBench => k_is); (case ehn_NoBench => k_is); (case eht_NoBench => k_is); (case ehm_NoBench => k_is); (case ehb_NoBench => k_is); (case pg_Gap => k_is); (case hd_Gap => k_is); (case po_Gap => k_is); (case sa_Gap => k_is); (case mk_Gap_init => k_is); (case a_Gap_init => k_is); (case fn_Gap_init => k_is); (case kc_Gap_init => k_is); (case l_Gap_init => k_is); (case c_Gap_init => k_is); (case kp_Gap_init => k_is); (case a_Gap_bent => k_is); (case fn_Gap_bent => k_is); (case kp_Gap_bent => k_is); (case l_Gap_bent => k_is); (case c_Gap_bent => k_is); (case n_Gap_length => k_is); (case pg_Glass => k_is); (case hd_Glass => k_is); (case po_Glass => k_is); (case sa_Glass => k_is); (case mk_Glass_init => k_is); (case a_Glass_init => k_is); (case fn_Glass_init => k_is); (case kc_Glass_init => k_is); (case l_Glass_init => k_is); (case c_Glass_init => k_is); (case kp_Glass_init => k_is); (case a_Glass_bent => k_is); (case fn_Glass_bent => k_is); (case kp_Glass_bent => k_is); (case l_Glass_bent => k_is); (case c_Glass_bent => k_is); (case n_Glass_strength => k_is); (case pg_Stop => k_is); (case hd_Stop => k_is); (case po_Stop => k_is); (case sa_Stop => k_is); (case mk_Stop_init => k_is); (case a_Stop_init => k_is); (case fn_Stop_init => k_is); (case kc_Stop_init => k_is); (case l_Stop_init => k_is); (case c_Stop_init => k_is); (case kp_Stop_init => k_is); (case a_Stop_bent => k_is); (case fn_Stop_bent => k_is); (case kp_Stop_bent => k_is); (case l_Stop_bent => k_is); (case c_Stop_bent => k_is); (case n_Stop_low => k_is); (case n_Stop_high => k_is); (case ob_NoBench_init => k_is); (case o_cb_NoBench_init => k_exc); (case it_NoBench_init => k_is); (case kp0_NoBench_init => k_is); (case hm_NoBench_init => k_is); (case hd_NoBench_init => k_is); (case fn_NoBench_init => k_is); (case sa_NoBench_init => k_is); (case na_NoBench_init => k_is); (case rd_NoBench_init => k_is); (case fc_NoBench_init => k_is); (case sg_NoBench_init => k_is); (case l_NoBench_init => k_is); (case c_NoBench_init => k_is); (case kp_NoBench_init => k_is); (case m_NOUGHT => k_is); (case lk_NOUGHT => k_is); (case m_ONE => k_is); (case lk_ONE => k_is)
    obtain ⟨ad, X0⟩ := X0
    obtain ⟨fd, FL, bL⟩ := K42.law_fd t_law hmg
    exact ⟨fd, bL, fun base _ _ => L2.FnB.ok (K42.ok_law ⟨X0, z_ValueError, z_abs, z_all, z_bool, z_enumerate, z_int, z_isinstance, z_len, z_list, z_str, z_tuple, t_is_whole, t_common_divisor, t_is_ratio, t_ratio_of, t_sum_of, t_less_by, t_product_of, t_quotient_of, t_is_less, t_is_stretch, t_is_box, t_look_at_box, t_is_piece, t_piece_of, t_look_at, t_limits_of, t_is_before, t_corners_of, t_edges_of, t_room_at, t_crossing_of, t_cut_by, t_from_the_least, t_field_of, t__law_cell_at, t__law_mix, t__law_ratio, t__law_stop, t__law_bench, t__law_box, t__law_wrong, t__law_no_bench, t__law_refused⟩ FL)⟩
#print axioms PySem.Challenge.cw_grindbench_k42_boxes_refused_holds
