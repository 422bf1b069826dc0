import PyProof.Rows.All
import Wide.All
import OpenK.AllK
import Wide.FinOn
import Lean
import PyProof.EqAt
import PyProof.EqKinds
import PyProof.TupleCall
import PySem.Challenge.RW_evenkin_k63_steps_refused
set_option Elab.async false
set_option linter.all false
set_option maxRecDepth 100000
/-! THE HAND LAYER, for ints, bools, texts, own classes, LISTS and tuples (index, slices, in, append, pop ..), calls, loops. Paste it whole ahead of your own text; what your proof does not reach may be deleted. -/
namespace L2
open PySem PySem.Spec PyProof.Rows

/-- a key: an int or a str -/
abbrev Key := Sum Int Str
def keyIs : Key → Value → Bool
  | .inl k, v => Value.isInt k v
  | .inr x, v => Value.isStrOf x v
def keyH (w : World) : Key → Int
  | .inl k => hashInt k
  | .inr x => hashStr w x
theorem keyIs_shape : ∀ {k : Key} {v : Value}, keyIs k v = true → (∃ i t, k = Sum.inl i ∧ v = Value.int i t) ∨ (∃ x t, k = Sum.inr x ∧ v = Value.str x t)
  | .inl i, v, h => by
    obtain ⟨t, e⟩ := Value.isInt_shape (k := i) (v := v) h
    exact .inl ⟨i, t, rfl, e⟩
  | .inr x, v, h => by
    obtain ⟨t, e⟩ := Value.isStrOf_shape (x := x) (v := v) h
    exact .inr ⟨x, t, rfl, e⟩
theorem key_ll (a b : Int) : decide ((Sum.inl a : Key) = Sum.inl b) = (a == b) := by
  by_cases e : a = b
  · subst e; simp
  · have h : ¬ (Sum.inl a : Key) = Sum.inl b := fun q => e (Sum.inl.inj q)
    rw [decide_eq_false h]
    exact (beq_eq_false_iff_ne.mpr e).symm
theorem key_rr (a b : Str) : decide ((Sum.inr a : Key) = Sum.inr b) = decide (a = b) := by
  by_cases e : a = b
  · subst e; simp
  · have h : ¬ (Sum.inr a : Key) = Sum.inr b := fun q => e (Sum.inr.inj q)
    rw [decide_eq_false h, decide_eq_false e]
theorem key_lr (a : Int) (b : Str) : decide ((Sum.inl a : Key) = Sum.inr b) = false := decide_eq_false (fun q => nomatch q)
theorem key_rl (a : Str) (b : Int) : decide ((Sum.inr a : Key) = Sum.inl b) = false := decide_eq_false (fun q => nomatch q)

def mixKind (prog : Program) (w : World) : PySem.KeyKind prog w Key where
  is := keyIs
  hash := keyH w
  inj := fun v a b ha hb => by
    rcases keyIs_shape ha with ⟨i, t, rfl, rfl⟩ | ⟨x, t, rfl, rfl⟩
    · rcases keyIs_shape hb with ⟨j, u, rfl, e⟩ | ⟨y, u, rfl, e⟩
      · injection e with e1 _; rw [e1]
      · exact nomatch e
    · rcases keyIs_shape hb with ⟨j, u, rfl, e⟩ | ⟨y, u, rfl, e⟩
      · exact nomatch e
      · injection e with e1 _; rw [e1]
  byValue := fun k v h => by
    rcases keyIs_shape h with ⟨i, t, rfl, rfl⟩ | ⟨x, t, rfl, rfl⟩ <;> rfl
  pyHash := fun hv h => by
    rcases keyIs_shape hv with ⟨i, t, rfl, rfl⟩ | ⟨x, t, rfl, rfl⟩
    · exact wpAny_pyHash_int h
    · exact wpAny_pyHash_str h
  eqBool := fun hu hv h => by
    rcases keyIs_shape hu with ⟨i, t, rfl, rfl⟩ | ⟨x, t, rfl, rfl⟩
    · rcases keyIs_shape hv with ⟨j, u, rfl, rfl⟩ | ⟨y, u, rfl, rfl⟩
      · rw [key_ll] at h; exact wpAny_eqBool_int h
      · rw [key_lr] at h; exact SeqAt.EqAt.int_str i t y u _ _ _ _ h
    · rcases keyIs_shape hv with ⟨j, u, rfl, rfl⟩ | ⟨y, u, rfl, rfl⟩
      · rw [key_rl] at h; exact SeqAt.EqAt.str_int x t j u _ _ _ _ h
      · rw [key_rr] at h; exact wpAny_eqBool_str h
  «strs» := fun k x t v h => by
    rcases keyIs_shape h with ⟨i, u, rfl, e⟩ | ⟨y, u, rfl, e⟩
    · exact nomatch e
    · injection e with e1 _
      subst e1
      cases v <;> rfl

end L2

namespace L2
open PySem PySem.Spec PyProof.Rows

/-- a value, without the heap -/
inductive V where
  | non | bl (b : Bool) | int (i : Int) | str (x : Str) | byt (b : Array UInt8) | flt (b : UInt64) | ref (a : Addr) | ty (n : String)
  deriving DecidableEq

def RelV : V → Value → Prop
  | .non, u => u = Value.none
  | .bl b, u => u = Value.bool b
  | .int i, u => ∃ t, u = Value.int i t
  | .str x, u => ∃ t, u = Value.str x t
  | .byt b, u => ∃ t, u = Value.bytes b t
  | .flt b, u => ∃ t, u = Value.float b t
  | .ref a, u => u = Value.ref a
  | .ty n, u => u = Value.type n

abbrev Vals : List V → List Value → Prop := Paired RelV
theorem Vals.length {xs : List V} {us : List Value} (r : Vals xs us) : xs.length = us.length := Paired.length r
theorem Vals.get : ∀ {xs : List V} {us : List Value} {i : Nat} {x : V}, Vals xs us → xs[i]? = some x → ∃ u, us[i]? = some u ∧ RelV x u
  | _, _, _, _, .nil, e => by simp at e
  | _, _, 0, _, .cons r _, e => by simp at e; subst e; exact ⟨_, rfl, r⟩
  | _, _, i + 1, x, .cons _ t, e => by
    obtain ⟨u, h1, h2⟩ := Vals.get (i := i) (x := x) t (by simpa using e)
    exact ⟨u, by simpa using h1, h2⟩
theorem Vals.set {x : V} {u : Value} (r : RelV x u) : ∀ {xs : List V} {us : List Value} (i : Nat), Vals xs us → Vals (xs.set i x) (us.set i u)
  | _, _, _, .nil => .nil
  | _, _, 0, .cons _ t => .cons r t
  | _, _, i + 1, .cons q t => .cons q (Vals.set r i t)
theorem Vals.append : ∀ {xs ys : List V} {us ws : List Value}, Vals xs us → Vals ys ws → Vals (xs ++ ys) (us ++ ws)
  | _, _, _, _, .nil, s => s
  | _, _, _, _, .cons r t, s => .cons r (Vals.append t s)
theorem Vals.take : ∀ {xs : List V} {us : List Value} (n : Nat), Vals xs us → Vals (xs.take n) (us.take n)
  | _, _, 0, _ => .nil
  | _, _, _ + 1, .nil => .nil
  | _, _, n + 1, .cons r t => .cons r (Vals.take n t)
theorem Vals.drop : ∀ {xs : List V} {us : List Value} (n : Nat), Vals xs us → Vals (xs.drop n) (us.drop n)
  | _, _, 0, r => r
  | _, _, _ + 1, .nil => .nil
  | _, _, n + 1, .cons _ t => Vals.drop n t
def RelO : Option V → Option Value → Prop
  | some v, some u => RelV v u
  | none, none => True
  | _, _ => False
def KV {κ : Type} : List (κ × V) → List (κ × Value) → Prop := Paired fun (p : κ × V) (q : κ × Value) => p.1 = q.1 ∧ RelV p.2 q.2

/-- a key of a dict (00_mix): an int or a text -/
def kV : Key → V
  | .inl i => .int i
  | .inr x => .str x

/-- what stands at a tracked address -/
inductive HO where
  /-- a list -/
  | lst (xs : List V)
  /-- a tuple (never changes) -/
  | tup (xs : List V)
  /-- a dict whose keys are ints and texts; one whose keys are tuples of ints and texts (the empty one is both) -/
  | dK (kvs : List (Key × V)) | dT (kvs : List (List Key × V))
  /-- a set of ints: its members, its size -/
  | set (S : Int → Bool) (n : Nat)
  /-- an instance of the class at C, its dict at dx, its attributes -/
  | ins (C dx : Addr) (fs : List (Str × V))
  /-- the dict of the instance at x -/
  | own (x : Addr)
  /-- the dict of an exception -/
  | xd (fs : List (Str × V))
  /-- a bound method, f of x -/
  | met (f x : Addr)
  /-- a range object lo, lo + 1, .. below hi -/
  | rng (lo hi : Int)
  /-- a thing that is known to the object (the script; a dict while a loop walks it): read, never written while it is so -/
  | frz (o : Obj) (u : HO)
  /-- a code object's table -/
  | tbl (ps : Array Value)
  /-- any other thing, by what is true of its one object (a def of one's own: SetO a S n := HO.ext fun h => ..) -/
  | ext (φ : Heap → Prop)

abbrev Hp := Addr → Option HO
def upd (H : Hp) (a : Addr) (o : HO) : Hp := fun b => if b = a then some o else H b
theorem upd_same {H : Hp} {a : Addr} {o : HO} : upd H a o a = some o := by unfold upd; rw [if_pos rfl]
theorem upd_ne {H : Hp} {a b : Addr} {o : HO} (h : b ≠ a) : upd H a o b = H b := by unfold upd; rw [if_neg h]
theorem upd_upd {H : Hp} {a : Addr} {o u : HO} : upd (upd H a o) a u = upd H a u := by
  funext b; unfold upd; split <;> rfl
theorem ne_of_none {H : Hp} {a b : Addr} {o : HO} (h : H a = some o) (h' : H b = none) : a ≠ b := by
  intro e; subst e; rw [h] at h'; cases h'

section
variable (P : Program) (w : World)
def ObjOk (H : Hp) (h : Heap) (a : Addr) : HO → Prop
  | .lst xs => xs.length ≤ sizeLine ∧ ∃ (its : List Value) (n : Nat), Vals xs its ∧ h.get? a = some { cls := .type "list", data := .seq its.toArray n }
  | .tup xs => xs.length ≤ sizeLine ∧ ∃ its : List Value, Vals xs its ∧ IsTup h a its.toArray
  | .dK kvs => kvs.length ≤ sizeLine ∧ (a == sysModules) = false ∧ ∃ vs, KV kvs vs ∧ h.DictOf (mixKind P w) a vs
  | .dT kvs => kvs.length ≤ sizeLine ∧ (a == sysModules) = false ∧ ∃ xs : List (List Key × Addr × Value),
      Paired (fun (p : List Key × V) (q : List Key × Addr × Value) => p.1 = q.1 ∧ H q.2.1 = some (.tup (p.1.map kV)) ∧ RelV p.2 q.2.2) kvs xs ∧
      ∃ o es ep, h.get? a = some o ∧ o.ExactDict ∧ o.data = .dict es ep ∧ es.toList = xs.map (entryOfKey (tupleKind (mixKind P w))) ∧ (xs.map (·.1)).Nodup
  | .set S n => h.SetOf (intKind P w) a S n
  | .ins C dx fs => H dx = some (.own a) ∧ fs.length ≤ 1000 ∧ dx ≠ a ∧ h.get? a = some (PySem.W.instObj C dx) ∧
      ∃ mA, h.Ns1 dx mA ∧ (∀ f, RelO (fs.lookup f) (mA f)) ∧ PySem.Within mA (fs.map (·.1))
  | .own _ => ∃ o, h.get? a = some o
  | .xd fs => ∃ mA, h.Ns1 a mA ∧ ∀ f, RelO (fs.lookup f) (mA f)
  | .rng lo hi => ∃ t u v, h.get? a = some { cls := .type "range", data := .fields #[.int lo t, .int hi u, .int 1 v] }
  | .frz o u => h.get? a = some o ∧ ObjOk H h a u
  | .tbl ps => h.get? a = some { cls := .none, data := .fields ps }
  | .met f x => h.get? a = some (PySem.W.methodObj (.ref f) (.ref x))
  | .ext φ => φ h ∧ (∃ o, h.get? a = some o) ∧ ∀ h1 h2 : Heap, φ h1 → (∀ o, h1.get? a = some o → h2.get? a = some o) → φ h2
/-- the abstract heap is held -/
def HOk (H : Hp) (h : Heap) : Prop := ∀ a o, H a = some o → ObjOk P w H h a o
end

section
variable {P : Program} {w : World} {H H' : Hp} {h h' : Heap} {a : Addr} {o : HO}
theorem ObjOk.lt (x : ObjOk P w H h a o) : a < h.objs.size := by
  cases o with
  | lst xs => obtain ⟨_, _, _, _, e⟩ := x; exact Heap.lt_size e
  | tup xs => obtain ⟨_, _, _, p⟩ := x; exact p.lt
  | dK kvs => obtain ⟨_, _, _, _, o, _, _, e, _⟩ := x; exact Heap.lt_size e
  | dT kvs => obtain ⟨_, _, _, _, o, _, _, e, _⟩ := x; exact Heap.lt_size e
  | set S n => obtain ⟨o, _, _, _, e, _⟩ := x; exact Heap.lt_size e
  | ins C dx fs => obtain ⟨_, _, _, e, _⟩ := x; exact Heap.lt_size e
  | own y => obtain ⟨_, e⟩ := x; exact Heap.lt_size e
  | xd fs => obtain ⟨_, ⟨_, _, _, e, _⟩, _⟩ := x; exact Heap.lt_size e
  | rng lo hi => obtain ⟨_, _, _, e⟩ := x; exact Heap.lt_size e
  | frz ob u => obtain ⟨e, _⟩ := x; exact Heap.lt_size e
  | tbl ps => exact Heap.lt_size (show h.get? a = some _ from x)
  | met f y => exact Heap.lt_size (show h.get? a = some _ from x)
  | ext φ => obtain ⟨_, ⟨_, e⟩, _⟩ := x; exact Heap.lt_size e
theorem Paired.mapP {α β : Type} {F G : α → β → Prop} : ∀ {l₁ : List α} {l₂ : List β}, Paired F l₁ l₂ → (∀ a b, F a b → G a b) → Paired G l₁ l₂
  | _, _, .nil, _ => .nil
  | _, _, .cons r t, f => .cons (f _ _ r) (Paired.mapP t f)
/-- what an object's description leans on: its own object, its own dict, the tuples -/
theorem ObjOk.stay (x : ObjOk P w H h a o) (k : ∀ b u, (b = a ∨ H b = some (.own a)) → h.get? b = some u → h'.get? b = some u)
    (ho : ∀ b, H b = some (.own a) → H' b = some (.own a)) (ht : ∀ b xs, H b = some (.tup xs) → H' b = some (.tup xs)) : ObjOk P w H' h' a o := by
  induction o with
  | lst xs => obtain ⟨z, its, n, r, e⟩ := x; exact ⟨z, its, n, r, k _ _ (.inl rfl) e⟩
  | tup xs => obtain ⟨z, its, r, ob, e, c⟩ := x; exact ⟨z, its, r, ob, k _ _ (.inl rfl) e, c⟩
  | dK kvs => obtain ⟨z, y, vs, r, ob, es, ep, e, c⟩ := x; exact ⟨z, y, vs, r, ob, es, ep, k _ _ (.inl rfl) e, c⟩
  | dT kvs =>
    obtain ⟨z, y, xs, r, ob, es, ep, e, c⟩ := x
    exact ⟨z, y, xs, Paired.mapP r fun p q z => ⟨z.1, ht _ _ z.2.1, z.2.2⟩, ob, es, ep, k _ _ (.inl rfl) e, c⟩
  | set S n => obtain ⟨ob, es, ep, t, e, c⟩ := x; exact ⟨ob, es, ep, t, k _ _ (.inl rfl) e, c⟩
  | ins C dx fs =>
    obtain ⟨d, z, ne, e, mA, ⟨od, es, ep, e2, c⟩, r⟩ := x
    exact ⟨ho _ d, z, ne, k _ _ (.inl rfl) e, mA, ⟨od, es, ep, k _ _ (.inr d) e2, c⟩, r⟩
  | own y => obtain ⟨ob, e⟩ := x; exact ⟨ob, k _ _ (.inl rfl) e⟩
  | xd fs => obtain ⟨mA, ⟨od, es, ep, e, c⟩, r⟩ := x; exact ⟨mA, ⟨od, es, ep, k _ _ (.inl rfl) e, c⟩, r⟩
  | rng lo hi => obtain ⟨t, u, v, e⟩ := x; exact ⟨t, u, v, k _ _ (.inl rfl) e⟩
  | frz ob u ih => obtain ⟨e, q⟩ := x; exact ⟨k _ _ (.inl rfl) e, ih q⟩
  | tbl ps =>
    have e : h.get? a = some { cls := .none, data := .fields ps } := x
    show h'.get? a = some { cls := .none, data := .fields ps }
    exact k a _ (.inl rfl) e
  | met f y =>
    have e : h.get? a = some (PySem.W.methodObj (.ref f) (.ref y)) := x
    show h'.get? a = some (PySem.W.methodObj (.ref f) (.ref y))
    exact k a _ (.inl rfl) e
  | ext φ => obtain ⟨p, ⟨o, e⟩, st⟩ := x; exact ⟨st _ _ p fun o q => k _ _ (.inl rfl) q, ⟨o, k _ _ (.inl rfl) e⟩, st⟩
theorem HOk.lt (x : HOk P w H h) (e : H a = some o) : a < h.objs.size := (x a o e).lt
theorem HOk.fresh (x : HOk P w H h) (e : h.objs.size ≤ a) : H a = none := by
  cases q : H a with
  | none => rfl
  | some u => exact absurd (Nat.lt_of_lt_of_le (x.lt q) e) (Nat.lt_irrefl _)
/-- every object of the heap is kept -/
theorem HOk.kept (x : HOk P w H h) (k : ∀ b u, h.get? b = some u → h'.get? b = some u) : HOk P w H h' := fun a o e =>
  (x a o e).stay (fun b u _ q => k b u q) (fun _ q => q) fun _ _ q => q
/-- a new object is laid and tracked -/
theorem HOk.laid (x : HOk P w H h) (k : ∀ b u, h.get? b = some u → h'.get? b = some u) (hp : h.objs.size ≤ a) (new : ObjOk P w (upd H a o) h' a o) : HOk P w (upd H a o) h' := fun b u e => by
  have hn := x.fresh hp
  by_cases hb : b = a
  · subst hb; rw [upd_same] at e; cases e; exact new
  · rw [upd_ne hb] at e
    exact (x b u e).stay (fun c v _ q => k c v q) (fun c q => by rw [upd_ne (ne_of_none q hn)]; exact q) fun c xs q => by rw [upd_ne (ne_of_none q hn)]; exact q
end

/-- what may be read as u: it is u, or a known u -/
def Rd (H : Hp) (a : Addr) (u : HO) : Prop := H a = some u ∨ ∃ o, H a = some (.frz o u)
theorem Rd.ok {P : Program} {w : World} {H : Hp} {h : Heap} {a : Addr} {u : HO} (r : Rd H a u) (x : HOk P w H h) : ObjOk P w H h a u := by
  rcases r with r | ⟨o, r⟩
  · exact x a u r
  · obtain ⟨_, q⟩ := x a _ r
    exact q
/-- what may be written -/
def Mut : Option HO → Prop
  | some (.lst _) => True
  | some (.dK _) => True
  | some (.dT _) => True
  | some (.set _ _) => True
  | some (.ins _ _ _) => True
  | some (.ext _) => True
  | _ => False
section
variable {P : Program} {w : World} {H : Hp} {h h' : Heap} {x e : Addr} {o' : HO}
/-- the object at e is changed: x itself, or the dict of the instance x -/
theorem HOk.write (ok : HOk P w H h) (mu : Mut (H x)) (he : e = x ∨ H e = some (.own x)) (k : ∀ b u, b ≠ e → h.get? b = some u → h'.get? b = some u) (heo : ∃ u, h'.get? e = some u)
    (new : ObjOk P w (upd H x o') h' x o') : HOk P w (upd H x o') h' := fun b u q => by
  have nown : ∀ c y, H c = some (.own y) → c ≠ x := fun c y r z => by subst z; rw [r] at mu; exact mu
  have ntup : ∀ c xs, H c = some (.tup xs) → c ≠ x := fun c xs r z => by subst z; rw [r] at mu; exact mu
  by_cases hb : b = x
  · subst hb; rw [upd_same] at q; cases q; exact new
  · rw [upd_ne hb] at q
    by_cases hbe : b = e
    · have q' : H b = some (.own x) := by
        rcases he with z | z
        · exact absurd (hbe.trans z) hb
        · rw [hbe]; exact z
      rw [q] at q'; cases q'
      obtain ⟨v, hv⟩ := heo
      exact ⟨v, by rw [hbe]; exact hv⟩
    · refine (ok b u q).stay (fun c v hc r => k c v ?_ r) (fun c r => by rw [upd_ne (nown c b r)]; exact r) fun c xs r => by rw [upd_ne (ntup c xs r)]; exact r
      rcases hc with rfl | hc
      · exact hbe
      · rintro rfl
        rcases he with z | z
        · exact nown c b hc z
        · rw [hc] at z; cases z; exact hb rfl
end

/-! ### kept unless tracked; of the frames at fs (the callers') the slots may change (an exception that passes writes there); of the records at ex (iterators) nothing is said -/
structure Un (fs ex : List Addr) (H H' : Hp) (h h' : Heap) : Prop where
  keep : ∀ b o, h.get? b = some o → H b = none → b ∉ fs → b ∉ ex → h'.get? b = some o
  slot : ∀ b o, h.get? b = some o → H b = none → b ∈ fs → b ∉ ex → ∃ sl, h'.get? b = some { o with slots := sl }
  free : ∀ b o, h.get? b = some o → H b = none → b ∉ ex → H' b = none
  there : ∀ b o, h.get? b = some o → b ∉ ex → ∃ o', h'.get? b = some o'
  tups : ∀ b xs, H b = some (.tup xs) → H' b = some (.tup xs)
  frzs : ∀ b o u, H b = some (.frz o u) → H' b = some (.frz o u)
  tbls : ∀ b ps, H b = some (.tbl ps) → ∃ more, H' b = some (.tbl (ps ++ more))
section
variable {fs fs' ex ex' : List Addr} {H H1 H2 : Hp} {h h1 h2 h' : Heap} {a x e : Addr} {o : HO}
theorem Un.any (u : Un fs ex H H1 h h1) {b : Addr} {ob : Obj} (q : h.get? b = some ob) (n : H b = none) (hx : b ∉ ex) : ∃ sl, h1.get? b = some { ob with slots := sl } := by
  by_cases hb : b ∈ fs
  · exact u.slot b ob q n hb hx
  · exact ⟨ob.slots, u.keep b ob q n hb hx⟩
theorem Un.kept (k : ∀ b u, h.get? b = some u → h'.get? b = some u) : Un fs ex H H h h' :=
  ⟨fun b ob q _ _ _ => k b ob q, fun b ob q _ _ _ => ⟨ob.slots, k b ob q⟩, fun _ _ _ n _ => n, fun b ob q _ => ⟨ob, k b ob q⟩, fun _ _ q => q, fun _ _ _ q => q, fun _ ps q => ⟨#[], by rw [q]; simp⟩⟩
theorem Un.refl : Un fs ex H H h h := Un.kept fun _ _ q => q
theorem Un.laid (k : ∀ b u, h.get? b = some u → h'.get? b = some u) (hp : h.objs.size ≤ a) (hn : H a = none) : Un fs ex H (upd H a o) h h' where
  keep := fun b u q _ _ _ => k b u q
  slot := fun b u q _ _ _ => ⟨u.slots, k b u q⟩
  free := fun b u q n _ => by rw [upd_ne (Nat.ne_of_lt (Nat.lt_of_lt_of_le (Heap.lt_size q) hp))]; exact n
  there := fun b u q _ => ⟨u, k b u q⟩
  tups := fun b xs q => by rw [upd_ne (ne_of_none q hn)]; exact q
  frzs := fun b u xs q => by rw [upd_ne (ne_of_none q hn)]; exact q
  tbls := fun b ps q => ⟨#[], by rw [upd_ne (ne_of_none q hn), q]; simp⟩
theorem Un.write (mu : Mut (H x)) (he : e = x ∨ H e = some (.own x)) (k : ∀ b u, b ≠ e → h.get? b = some u → h'.get? b = some u) (heo : ∃ u, h'.get? e = some u) : Un fs ex H (upd H x o) h h' := by
  have hx : ∀ b, H b = none → b ≠ x := fun b n z => by subst z; rw [n] at mu; exact mu
  have hb : ∀ b, H b = none → b ≠ e := fun b n z => by
    subst z
    rcases he with r | r
    · exact hx b n r
    · rw [n] at r; cases r
  have hm : ∀ b u, H b = some u → ¬ Mut (some u) → b ≠ x := fun b u q nm z => by subst z; rw [q] at mu; exact nm mu
  refine ⟨fun b u q n _ _ => k b u (hb b n) q, fun b u q n _ _ => ⟨u.slots, k b u (hb b n) q⟩, fun b u q n _ => by rw [upd_ne (hx b n)]; exact n, fun b u q _ => ?_,
    fun b xs q => by rw [upd_ne (hm b _ q fun z => z)]; exact q, fun b u xs q => by rw [upd_ne (hm b _ q fun z => z)]; exact q, fun b ps q => ⟨#[], by rw [upd_ne (hm b _ q fun z => z), q]; simp⟩⟩
  by_cases hbe : b = e
  · subst hbe; exact heo
  · exact ⟨u, k b u hbe q⟩
end

/-! ### the heap without what is tracked -/
def trk (h : Heap) (H : Hp) : List Addr := (List.range h.objs.size).filter fun a => (H a).isSome
def hidT (h : Heap) (H : Hp) : Heap := PySem.W.hideAll h (trk h H)
theorem hidT_size (h : Heap) (H : Hp) : (hidT h H).objs.size = h.objs.size := PySem.W.hideAll_size _ _
theorem hidT_get {h : Heap} {H : Hp} {b : Addr} {o : Obj} (e : h.get? b = some o) (n : H b = none) : (hidT h H).get? b = some o :=
  PySem.W.hideAll_get _ e fun hm => by
    have q : (H b).isSome = true := (List.mem_filter.mp hm).2
    rw [n] at q; simp at q
theorem of_hidT {h : Heap} {H : Hp} {b : Addr} {o : Obj} (e : (hidT h H).get? b = some o) : h.get? b = some o ∧ H b = none := by
  have e' : h.get? b = some o := PySem.W.of_hideAll (trk h H) e
  refine ⟨e', ?_⟩
  cases q : H b with
  | none => rfl
  | some x =>
    have hm : b ∈ trk h H := List.mem_filter.mpr ⟨List.mem_range.mpr (Heap.lt_size e'), by simp [q]⟩
    have z : (hidT h H).get? b = none := PySem.W.hideAll_none (trk h H) hm
    rw [z] at e; cases e

/-! ### OpenK's ledger, filled with every new object but one -/
def allNews (g h : Heap) (L : Addr) : List (Addr × Obj) := (List.range h.objs.size).filterMap fun a => if a = L ∨ (g.get? a).isSome = true then none else (h.get? a).map fun o => (a, o)
def rest (g h : Heap) (L d : Addr) : List (Addr × Obj) := (allNews g h L).filter fun p => decide (p.1 ≠ d)
end L2

namespace L2
open PySem PySem.Spec PyProof.Rows

/-- the module's facts, over the base: the heap at the law's entry without what is tracked there -/
structure Mod (K : PySem.W.Frag) (mg : Str → Option Value) (base : Heap) : Prop where
  kin : K.In base
  glob : base.Ns mainGlobals mg
  blt : ∃ mb, base.Ns builtinsNs mb ∧ ∀ x : Str, x ≠ "__name__" → mb x = bootBuiltins x
  nolimit : base.NoLimit

/-- the context: a def's body (or a comprehension's block) running. base: fixed through the whole law; s₀, H₀: the entry; outer: the frames whose slots others may change (a def's callers); stack: all frames that run;
   ex: iterators that were made ahead of the entry and are walked here (a comprehension's); fn: the names whose cells were made at the entry (a def: all; a comprehension's block: its own); calm: not within an except suite; pn: pins that every state bears; xe: what is wanted of an exception that leaves the code -/
structure Cx where
  prog : Program
  w : World
  K : PySem.W.Frag
  mg : Str → Option Value
  base : Heap
  A : Around
  N : List Str
  s₀ : Shared
  H₀ : Hp
  env : Env
  outer : List Env
  stack : List Env
  ex : List Addr
  fn : Str → Bool
  calm : Bool
  pn : List (Addr × Obj)
  xe : Value → Shared → Prop
/-- the callers' frames -/
def frs (l : List Env) : List Addr := l.filterMap (·.frame)
abbrev Cx.fs (X : Cx) : List Addr := frs X.outer

def Vis (sc : Scope) (x : Str) : Prop := sc.names.lookup x = some .local ∨ sc.names.lookup x = some .cell ∨ sc.names.lookup x = some .free
def Loc (sc : Scope) (x : Str) : Prop := sc.names.lookup x = some .local ∨ sc.names.lookup x = some .cell
def Look (env : Env) (h : Heap) (m : Str → Option Value) (x : Str) (u : Value) : Prop :=
  (env.kindOf x = some .local ∧ m x = some u) ∨ ((env.kindOf x = some .cell ∨ env.kindOf x = some .free) ∧ ∃ c, env.cells.lookup x = some c ∧ h.IsCell c (some u))

structure Cx.Ok (X : Cx) : Prop where
  mod : Mod X.K X.mg X.base
  kind : X.env.scope.kind = .function
  glob : X.env.globals = mainGlobals
  blt : X.env.builtins = builtinsNs
  above : X.s₀.heap.objs.size ≤ X.env.locals
  inj : ∀ x y c, X.env.cells.lookup x = some c → X.env.cells.lookup y = some c → x = y
  has : ∀ x, (X.env.kindOf x = some .cell ∨ X.env.kindOf x = some .free) → ∃ c, X.env.cells.lookup x = some c
  cab : ∀ x c, X.fn x = true → X.env.cells.lookup x = some c → X.s₀.heap.objs.size ≤ c
  hd : X.calm = true → X.A.handled = none
  frames : X.A.frames = some X.stack
  stk : X.stack = X.outer ∨ (X.stack = X.env :: X.outer ∧ X.env.frame = some X.env.locals)
  exf : ∀ b ∈ X.ex, b ≠ X.env.locals ∧ ∀ x c, X.env.cells.lookup x = some c → c ≠ b
  bs : ∀ b o, X.base.get? b = some o → X.s₀.heap.get? b = some o ∧ X.H₀ b = none
  bsz : X.base.objs.size ≤ X.s₀.heap.objs.size
  noex : ∀ b o, X.base.get? b = some o → b ∉ X.ex
  exfs : ∀ b ∈ X.ex, b ∉ X.fs
  funs : X.s₀.heap.FunFrames X.base X.outer
  frf : ∀ b ∈ X.fs, X.H₀ b = none

structure Inv (X : Cx) (pins : List (Addr × Obj)) (σ : List (Option V)) (H : Hp) (s : Shared) : Prop where
  ok : X.Ok
  os : s.os = X.s₀.os
  bare : AllBare s.gens
  base : Un X.fs X.ex X.H₀ H X.s₀.heap s.heap
  loc : ∃ m, s.heap.Ns X.env.locals m ∧ ∀ (i : Nat) (x : Str) (v : V), X.N[i]? = some x → σ[i]? = some (some v) → Vis X.env.scope x → ∃ u, RelV v u ∧ Look X.env s.heap m x u
  cell : ∀ x c, X.env.cells.lookup x = some c → ∃ v, s.heap.IsCell c v
  free : H X.env.locals = none
  freeC : ∀ x c, X.env.cells.lookup x = some c → H c = none
  pin : ∀ p ∈ X.pn ++ pins, s.heap.get? p.1 = some p.2 ∧ H p.1 = none ∧ p.1 ≠ X.env.locals ∧ p.1 ∉ X.fs ∧ ∀ v, p.2.data ≠ .cell v
  hok : HOk X.prog X.w H s.heap
  len : σ.length = X.N.length

section
variable {X : Cx} {pins : List (Addr × Obj)} {σ : List (Option V)} {H H' : Hp} {s : Shared} {h' : Heap}

theorem Cx.Ok.nofr (ok : X.Ok) {b : Addr} {o : Obj} (e : X.base.get? b = some o) : b ∉ X.fs := fun hb => by
  have := (ok.funs.mem hb).1
  rw [e] at this; cases this
theorem Inv.bs (I : Inv X pins σ H s) : ∀ b o, X.base.get? b = some o → s.heap.get? b = some o ∧ H b = none := fun b o e =>
  ⟨I.base.keep b o (I.ok.bs b o e).1 (I.ok.bs b o e).2 (I.ok.nofr e) (I.ok.noex b o e), I.base.free b o (I.ok.bs b o e).1 (I.ok.bs b o e).2 (I.ok.noex b o e)⟩
theorem Inv.bk (I : Inv X pins σ H s) : ∀ b o, X.base.get? b = some o → s.heap.get? b = some o := fun b o e => (I.bs b o e).1
theorem Inv.mod (I : Inv X pins σ H s) : Mod X.K X.mg X.base := I.ok.mod
theorem Inv.kIn (I : Inv X pins σ H s) : X.K.In s.heap := I.ok.mod.kin.keeps I.bk
theorem Inv.lt (I : Inv X pins σ H s) : X.env.locals < s.heap.objs.size := let ⟨_, hn, _⟩ := I.loc; hn.lt
theorem Inv.sz (I : Inv X pins σ H s) : X.s₀.heap.objs.size ≤ s.heap.objs.size := Nat.le_trans I.ok.above (Nat.le_of_lt I.lt)
theorem Inv.nofs (I : Inv X pins σ H s) {a : Addr} (h : s.heap.objs.size ≤ a) : a ∉ X.fs := fun hb => by
  obtain ⟨_, o, ho, _⟩ := I.ok.funs.mem hb
  exact absurd (Nat.lt_of_lt_of_le (Heap.lt_size ho) (Nat.le_trans I.sz h)) (Nat.lt_irrefl _)
theorem Inv.cne (I : Inv X pins σ H s) : ∀ x c, X.env.cells.lookup x = some c → c ≠ X.env.locals := fun x c e z => by
  obtain ⟨v, o, ho, hd⟩ := I.cell x c e
  obtain ⟨m, ⟨o', es, ep, ho', hd', _⟩, _⟩ := I.loc
  rw [z, ho'] at ho; cases ho; rw [hd'] at hd; cases hd
theorem Inv.funs (I : Inv X pins σ H s) : s.heap.FunFrames X.base X.outer := by
  have all : ∀ (l : List Env), (∀ b ∈ frs l, b ∈ X.fs) → X.s₀.heap.FunFrames X.base l → s.heap.FunFrames X.base l := by
    intro l
    induction l with
    | nil => intro _ _; trivial
    | cons env r ih =>
      intro hs hl
      obtain ⟨hk, ⟨L, o, hf, hn, ho, hd⟩, hr⟩ := hl
      have hL : L ∈ X.fs := hs L (by unfold frs; rw [List.filterMap_cons, hf]; exact List.mem_cons_self)
      obtain ⟨sl, e⟩ := I.base.slot L o ho (I.ok.frf L hL) hL fun z => I.ok.exfs L z hL
      exact ⟨hk, ⟨L, _, hf, hn, e, hd⟩, ih (fun b hb => hs b (by unfold frs; rw [List.filterMap_cons, hf]; exact List.mem_cons_of_mem _ hb)) hr⟩
  exact all X.outer (fun _ hb => hb) I.ok.funs

/-- the frames that run, for a call -/
theorem Inv.stack (I : Inv X pins σ H s) : s.heap.FunFrames X.base X.stack := by
  rcases I.ok.stk with e | ⟨e, hf⟩
  · rw [e]; exact I.funs
  · rw [e]
    obtain ⟨m, hn, _⟩ := I.loc
    refine .cons (by rw [I.ok.kind]; decide) hf hn ?_ I.funs
    exact Heap.get?_none_of_le (Nat.le_trans I.ok.bsz I.ok.above)
theorem Inv.stkSub (I : Inv X pins σ H s) : ∀ b ∈ frs X.stack, b ∈ X.env.locals :: X.fs := fun b hb => by
  rcases I.ok.stk with e | ⟨e, hf⟩
  · rw [e] at hb; exact List.mem_cons_of_mem _ hb
  · rw [e] at hb
    unfold frs at hb
    rw [List.filterMap_cons, hf] at hb
    exact hb
theorem Inv.stkFree (I : Inv X pins σ H s) : ∀ b ∈ frs X.stack, H b = none := fun b hb => by
  rcases List.mem_cons.mp (I.stkSub b hb) with e | hb
  · rw [e]; exact I.free
  · obtain ⟨_, o, ho, _⟩ := I.ok.funs.mem hb
    exact I.base.free b o ho (I.ok.frf b hb) fun z => I.ok.exfs b z hb

/-- THE STEP: the untracked objects but the frame and the records at ch are kept (the callers' frames up to slots), the frame's map is kept, the new abstract heap is held -/
theorem Inv.step {g' : Array GenState} {t' : Nat} {d' : Drawn} {ch : List Addr} (I : Inv X pins σ H s)
    (hch : ∀ b ∈ ch, (b ∈ X.ex ∨ X.s₀.heap.objs.size ≤ b) ∧ b ≠ X.env.locals ∧ (∀ x c, X.env.cells.lookup x = some c → c ≠ b) ∧ ∀ p ∈ X.pn ++ pins, p.1 ≠ b)
    (keep : ∀ b o, b ≠ X.env.locals → b ∉ X.fs → b ∉ ch → s.heap.get? b = some o → H b = none → h'.get? b = some o)
    (slot : ∀ b o, b ≠ X.env.locals → b ∈ X.fs → b ∉ ch → s.heap.get? b = some o → H b = none → ∃ sl, h'.get? b = some { o with slots := sl }) (free : ∀ b o, b ∉ ch → s.heap.get? b = some o → H b = none → H' b = none)
    (there : ∀ b o, b ∉ ch → s.heap.get? b = some o → ∃ o', h'.get? b = some o')
    (tups : ∀ b xs, H b = some (.tup xs) → H' b = some (.tup xs)) (frzs : ∀ b o u, H b = some (.frz o u) → H' b = some (.frz o u)) (tbls : ∀ b ps, H b = some (.tbl ps) → ∃ more, H' b = some (.tbl (ps ++ more)))
    (ns : ∀ m, s.heap.Ns X.env.locals m → h'.Ns X.env.locals m) (hok : HOk X.prog X.w H' h') (hg : AllBare g') :
    Inv X pins σ H' { s with heap := h', gens := g', drawn := d', toks := t' } := by
  have neL : ∀ b o, X.s₀.heap.get? b = some o → b ≠ X.env.locals := fun b o e => Nat.ne_of_lt (Nat.lt_of_lt_of_le (Heap.lt_size e) I.ok.above)
  have neC : ∀ b o, X.s₀.heap.get? b = some o → b ∉ X.ex → b ∉ ch := fun b o e hx hb => by
    rcases (hch b hb).1 with z | z
    · exact hx z
    · exact absurd (Nat.lt_of_lt_of_le (Heap.lt_size e) z) (Nat.lt_irrefl _)
  have cellK : ∀ x c, X.env.cells.lookup x = some c → ∀ v, s.heap.IsCell c v → h'.IsCell c v := fun x c e v ⟨o, ho, hd⟩ => by
    have nch : c ∉ ch := fun z => (hch c z).2.2.1 x c e rfl
    by_cases hc : c ∈ X.fs
    · obtain ⟨sl, q⟩ := slot c o (I.cne x c e) hc nch ho (I.freeC x c e)
      exact ⟨_, q, hd⟩
    · exact ⟨o, keep c o (I.cne x c e) hc nch ho (I.freeC x c e), hd⟩
  refine ⟨I.ok, I.os, hg, ⟨fun b o e n hb hx => ?_, fun b o e n hb hx => ?_, fun b o e n hx => ?_, fun b o e hx => ?_, fun b xs e => tups b xs (I.base.tups b xs e), fun b o xs e => frzs b o xs (I.base.frzs b o xs e), fun b ps e => ?_⟩, ?_, fun x c e => ?_, ?_, fun x c e => ?_, fun p hp => ?_, hok, I.len⟩
  · exact keep b o (neL b o e) hb (neC b o e hx) (I.base.keep b o e n hb hx) (I.base.free b o e n hx)
  · obtain ⟨sl, e1⟩ := I.base.slot b o e n hb hx
    obtain ⟨sl', e2⟩ := slot b _ (neL b o e) hb (neC b o e hx) e1 (I.base.free b o e n hx)
    exact ⟨sl', e2⟩
  · obtain ⟨o', e1⟩ := I.base.there b o e hx
    exact free b o' (neC b o e hx) e1 (I.base.free b o e n hx)
  · obtain ⟨o', e1⟩ := I.base.there b o e hx
    exact there b o' (neC b o e hx) e1
  · obtain ⟨m1, e1⟩ := I.base.tbls b ps e
    obtain ⟨m2, e2⟩ := tbls b _ e1
    exact ⟨m1 ++ m2, by rw [e2, Array.append_assoc]⟩
  · obtain ⟨m, hn, hl⟩ := I.loc
    refine ⟨m, ns m hn, fun i x v e1 e2 e3 => ?_⟩
    obtain ⟨u, r, l⟩ := hl i x v e1 e2 e3
    refine ⟨u, r, ?_⟩
    rcases l with l | ⟨k, c, e, z⟩
    · exact .inl l
    · exact .inr ⟨k, c, e, cellK x c e _ z⟩
  · obtain ⟨v, z⟩ := I.cell x c e
    exact ⟨v, cellK x c e v z⟩
  · obtain ⟨m, ⟨o, _, _, ho, _⟩, _⟩ := I.loc
    exact free _ o (fun z => (hch _ z).2.1 rfl) ho I.free
  · obtain ⟨v, o, ho, hd⟩ := I.cell x c e
    exact free c o (fun z => (hch c z).2.2.1 x c e rfl) ho (I.freeC x c e)
  · obtain ⟨e, n, ne, nf, d⟩ := I.pin p hp
    have nch : p.1 ∉ ch := fun z => (hch p.1 z).2.2.2 p hp rfl
    exact ⟨keep p.1 p.2 ne nf nch e n, free p.1 p.2 nch e n, ne, nf, d⟩
/-- .. where the frame's own object is kept too -/
theorem Inv.un {t' : Nat} (I : Inv X pins σ H s) (u : Un X.fs [] H H' s.heap h') (hok : HOk X.prog X.w H' h') : Inv X pins σ H' { s with heap := h', toks := t' } := by
  obtain ⟨m, ⟨o, es, ep, ho, r⟩, _⟩ := id I.loc
  obtain ⟨sl, hL⟩ := u.any ho I.free (by simp)
  exact I.step (g' := s.gens) (d' := s.drawn) (ch := []) (fun _ z => nomatch z) (fun b o _ hb _ e n => u.keep b o e n hb (by simp)) (fun b o _ hb _ e n => u.slot b o e n hb (by simp)) (fun b o _ e n => u.free b o e n (by simp)) (fun b o _ e => u.there b o e (by simp)) u.tups u.frzs u.tbls (fun m' hm => by
    obtain ⟨o', es', ep', ho', r'⟩ := hm
    rw [ho] at ho'; cases ho'
    exact ⟨_, es', ep', hL, r'⟩) hok I.bare
/-- behind a call (or a comprehension's block): the slots of this frame may have changed too, the records at ch may have turned -/
theorem Inv.call {g' : Array GenState} {t' : Nat} {d' : Drawn} {ch : List Addr} (I : Inv X pins σ H s) (u : Un (frs X.stack) ch H H' s.heap h') (hok : HOk X.prog X.w H' h') (hg : AllBare g')
    (hch : ∀ b ∈ ch, (b ∈ X.ex ∨ X.s₀.heap.objs.size ≤ b) ∧ b ≠ X.env.locals ∧ (∀ x c, X.env.cells.lookup x = some c → c ≠ b) ∧ ∀ p ∈ X.pn ++ pins, p.1 ≠ b) :
    Inv X pins σ H' { s with heap := h', gens := g', drawn := d', toks := t' } := by
  obtain ⟨m, ⟨o, es, ep, ho, r⟩, _⟩ := id I.loc
  obtain ⟨sl, hL⟩ := u.any ho I.free fun z => (hch _ z).2.1 rfl
  exact I.step (ch := ch) hch (fun b o hL hb hc e n => u.keep b o e n (fun z => (List.mem_cons.mp (I.stkSub b z)).elim hL hb) hc) (fun b o _ _ hc e n => u.any e n hc) (fun b o hc e n => u.free b o e n hc) (fun b o hc e => u.there b o e hc) u.tups u.frzs u.tbls (fun m' hm => by
    obtain ⟨o', es', ep', ho', r'⟩ := hm
    rw [ho] at ho'; cases ho'
    exact ⟨_, es', ep', hL, r'⟩) hok hg
/-- an untracked record of ours (an iterator) has turned -/
theorem Inv.turned {t' : Nat} {it : Addr} (I : Inv X pins σ H s) (k : ∀ b o, b ≠ it → s.heap.get? b = some o → h'.get? b = some o) (hn : H it = none) (hL : it ≠ X.env.locals)
    (h1 : it ∈ X.ex ∨ X.s₀.heap.objs.size ≤ it) (h2 : ∀ x c, X.env.cells.lookup x = some c → c ≠ it) (h3 : ∀ p ∈ X.pn ++ pins, p.1 ≠ it) : Inv X pins σ H { s with heap := h', toks := t' } := by
  have nit : ∀ b u, H b = some u → b ≠ it := fun b u e z => by rw [z, hn] at e; cases e
  refine I.step (g' := s.gens) (d' := s.drawn) (ch := [it]) (fun b hb => ?_) (fun b o _ _ hc e _ => k b o (fun z => hc (by simp [z])) e) (fun b o _ _ hc e _ => ⟨o.slots, k b o (fun z => hc (by simp [z])) e⟩) (fun _ _ _ _ n => n)
    (fun b o hc e => ⟨o, k b o (fun z => hc (by simp [z])) e⟩) (fun _ _ e => e) (fun _ _ _ e => e) (fun b ps e => ⟨#[], by rw [e]; simp⟩) (fun m hm => ?_) (fun b u e => ?_) I.bare
  · have e : b = it := by simpa using hb
    subst e
    exact ⟨h1, hL, h2, h3⟩
  · obtain ⟨o, es, ep, ho, r⟩ := hm
    exact ⟨o, es, ep, k _ o (Ne.symm hL) ho, r⟩
  · refine (I.hok b u e).stay (fun c v hc q => k c v ?_ q) (fun _ q => q) fun _ _ q => q
    rcases hc with z | z
    · rw [z]; exact nit b u e
    · exact nit c _ z
theorem Inv.tok (I : Inv X pins σ H s) (t : Nat) : Inv X pins σ H { s with toks := t } := I.un (h' := s.heap) (t' := t) Un.refl I.hok
/-- all objects kept -/
theorem Inv.kept {t' : Nat} (I : Inv X pins σ H s) (k : ∀ b u, s.heap.get? b = some u → h'.get? b = some u) : Inv X pins σ H { s with heap := h', toks := t' } := I.un (Un.kept k) (I.hok.kept k)
/-- a new object laid and tracked -/
theorem Inv.laid {a : Addr} {o : HO} {t' : Nat} (I : Inv X pins σ H s) (k : ∀ b u, s.heap.get? b = some u → h'.get? b = some u) (hp : s.heap.objs.size ≤ a) (new : ObjOk X.prog X.w (upd H a o) h' a o) :
    Inv X pins σ (upd H a o) { s with heap := h', toks := t' } := I.un (Un.laid k hp (I.hok.fresh hp)) (I.hok.laid k hp new)
/-- an object written -/
theorem Inv.write {x e : Addr} {o : HO} {t' : Nat} (I : Inv X pins σ H s) (mu : Mut (H x)) (he : e = x ∨ H e = some (.own x)) (k : ∀ b u, b ≠ e → s.heap.get? b = some u → h'.get? b = some u) (heo : ∃ u, h'.get? e = some u)
    (new : ObjOk X.prog X.w (upd H x o) h' x o) : Inv X pins σ (upd H x o) { s with heap := h', toks := t' } := I.un (Un.write mu he k heo) (I.hok.write mu he k heo new)
theorem Inv.pins_of {pins' : List (Addr × Obj)} (I : Inv X pins σ H s) (h : ∀ p ∈ pins', s.heap.get? p.1 = some p.2 ∧ H p.1 = none ∧ p.1 ≠ X.env.locals ∧ p.1 ∉ X.fs ∧ ∀ v, p.2.data ≠ .cell v) : Inv X pins' σ H s :=
  ⟨I.ok, I.os, I.bare, I.base, I.loc, I.cell, I.free, I.freeC, fun p hp => (List.mem_append.mp hp).elim (fun z => I.pin p (List.mem_append_left _ z)) (h p), I.hok, I.len⟩

theorem nodup_ix {N : List Str} (hN : N.Nodup) {i j : Nat} {x : Str} (a : N[i]? = some x) (b : N[j]? = some x) : i = j := by
  obtain ⟨h1, e1⟩ := List.getElem?_eq_some_iff.mp a
  obtain ⟨h2, e2⟩ := List.getElem?_eq_some_iff.mp b
  exact (List.getElem_inj hN).mp (e1.trans e2.symm)

/-- a name is stored; what changed -/
theorem store_ok2 {M : Model} {A : Around} {E : Value → Shared → Prop} {i : Nat} {x : Str} {v : V} {u : Value} {Q : Unit → Shared → Prop} (I : Inv X pins σ H s) (hN : X.N.Nodup) (hi : X.N[i]? = some x) (hx : Loc X.env.scope x) (r : RelV v u)
    (h : ∀ s', Inv X pins (σ.set i (some v)) H s' → (∃ a, Heap.SameBut a s.heap s'.heap ∧ (a = X.env.locals ∨ X.env.cells.lookup x = some a)) → Q () s') (hf : X.fn x = true ∨ X.env.scope.names.lookup x = some .local := by first | exact .inl rfl | exact .inr rfl | assumption) : wpAny M A (storeName X.env x u) Q E s := by
  obtain ⟨m, hn, hl⟩ := id I.loc
  have hcls : (X.env.scope.kind == .class || (X.env.scope.kind == .module && X.env.locals != X.env.globals)) = false := by rw [I.ok.kind]; rfl
  have hiσ : i < σ.length := by rw [I.len]; exact (List.getElem?_eq_some_iff.mp hi).1
  have cne := I.cne
  have tracked : ∀ {a : Addr} {h' : Heap}, (∃ o, s.heap.get? a = some o ∧ H a = none) → Heap.SameBut a s.heap h' → HOk X.prog X.w H h' := fun {a h'} ha hs b ob e => by
    obtain ⟨_, _, hfree⟩ := ha
    refine (I.hok b ob e).stay (fun c w' hc q => (hs.2 c ?_).trans q) (fun _ q => q) fun _ _ q => q
    rintro rfl
    rcases hc with rfl | hc
    · rw [hfree] at e; cases e
    · rw [hfree] at hc; cases hc
  rcases hx with hk | hk
  · refine wpAny_storeName_local hk hn (fun h' hn' hs => ?_) hcls
    obtain ⟨oL, _, _, hoL, _⟩ := id hn
    refine h _ ⟨I.ok, I.os, I.bare, ⟨fun b o e n hb hx => ?_, fun b o e n hb hx => ?_, I.base.free, fun b o e hx => ?_, I.base.tups, I.base.frzs, I.base.tbls⟩, ⟨_, hn', fun j y v' e1 e2 e3 => ?_⟩, fun y c e => ?_, I.free, I.freeC, fun p hp => ?_, tracked ⟨oL, hoL, I.free⟩ hs, by simpa using I.len⟩ ⟨_, hs, .inl rfl⟩
    · exact (hs.2 b (Nat.ne_of_lt (Nat.lt_of_lt_of_le (Heap.lt_size e) I.ok.above))).trans (I.base.keep b o e n hb hx)
    · obtain ⟨sl, e1⟩ := I.base.slot b o e n hb hx
      exact ⟨sl, (hs.2 b (Nat.ne_of_lt (Nat.lt_of_lt_of_le (Heap.lt_size e) I.ok.above))).trans e1⟩
    · obtain ⟨o', e1⟩ := I.base.there b o e hx
      exact ⟨o', (hs.2 b (Nat.ne_of_lt (Nat.lt_of_lt_of_le (Heap.lt_size e) I.ok.above))).trans e1⟩
    · by_cases hj : j = i
      · subst hj
        rw [hi] at e1; cases e1
        rw [List.getElem?_set_self hiσ] at e2
        cases e2
        exact ⟨u, r, .inl ⟨hk, by simp⟩⟩
      · rw [List.getElem?_set_ne (Ne.symm hj)] at e2
        obtain ⟨u', r', q⟩ := hl j y v' e1 e2 e3
        refine ⟨u', r', ?_⟩
        rcases q with ⟨k, e⟩ | ⟨k, c, e, z⟩
        · refine .inl ⟨k, ?_⟩
          have : y ≠ x := fun e => hj (nodup_ix hN e1 (e ▸ hi))
          simp [this, e]
        · exact .inr ⟨k, c, e, z.sameBut hs (cne y c e)⟩
    · obtain ⟨w', z⟩ := I.cell y c e
      exact ⟨w', z.sameBut hs (cne y c e)⟩
    · obtain ⟨e, n, ne, nf, d⟩ := I.pin p hp
      exact ⟨(hs.2 p.1 ne).trans e, n, ne, nf, d⟩
  · have hfn : X.fn x = true := by
      rcases hf with z | z
      · exact z
      · rw [z] at hk; cases hk
    obtain ⟨c, hc⟩ := I.ok.has x (.inl hk)
    obtain ⟨w', z⟩ := I.cell x c hc
    refine wpAny_storeName_cell I.ok.kind hk hc z (fun h' hc' hs => ?_)
    obtain ⟨oc, hoc, hocd⟩ := id z
    refine h { s with heap := h' } ⟨I.ok, I.os, I.bare, ⟨fun b o e n hb hx => ?_, fun b o e n hb hx => ?_, I.base.free, fun b o e hx => ?_, I.base.tups, I.base.frzs, I.base.tbls⟩, ⟨m, hn.sameBut hs (Ne.symm (cne x c hc)), fun j y v' e1 e2 e3 => ?_⟩, fun y c' e => ?_, I.free, I.freeC, fun p hp => ?_, tracked ⟨oc, hoc, I.freeC x c hc⟩ hs, by simpa using I.len⟩ ⟨c, hs, .inr hc⟩
    · exact (hs.2 b (Nat.ne_of_lt (Nat.lt_of_lt_of_le (Heap.lt_size e) (I.ok.cab x c hfn hc)))).trans (I.base.keep b o e n hb hx)
    · obtain ⟨sl, e1⟩ := I.base.slot b o e n hb hx
      exact ⟨sl, (hs.2 b (Nat.ne_of_lt (Nat.lt_of_lt_of_le (Heap.lt_size e) (I.ok.cab x c hfn hc)))).trans e1⟩
    · obtain ⟨o', e1⟩ := I.base.there b o e hx
      exact ⟨o', (hs.2 b (Nat.ne_of_lt (Nat.lt_of_lt_of_le (Heap.lt_size e) (I.ok.cab x c hfn hc)))).trans e1⟩
    · by_cases hj : j = i
      · subst hj
        rw [hi] at e1; cases e1
        rw [List.getElem?_set_self hiσ] at e2
        cases e2
        exact ⟨u, r, .inr ⟨.inl hk, c, hc, hc'⟩⟩
      · rw [List.getElem?_set_ne (Ne.symm hj)] at e2
        obtain ⟨u', r', q⟩ := hl j y v' e1 e2 e3
        refine ⟨u', r', ?_⟩
        rcases q with q | ⟨k, c', e, z'⟩
        · exact .inl q
        · refine .inr ⟨k, c', e, z'.sameBut hs ?_⟩
          rintro rfl
          exact hj (nodup_ix hN e1 (I.ok.inj _ _ _ e hc ▸ hi))
    · by_cases hcc : c' = c
      · subst hcc; exact ⟨_, hc'⟩
      · obtain ⟨w2, z2⟩ := I.cell y c' e
        exact ⟨w2, z2.sameBut hs hcc⟩
    · obtain ⟨e, n, ne, nf, d⟩ := I.pin p hp
      refine ⟨(hs.2 p.1 ?_).trans e, n, ne, nf, d⟩
      intro q
      rw [q, hoc] at e
      have q' : oc = p.2 := Option.some.inj e
      exact d w' (by rw [← q']; exact hocd)
theorem store_ok {M : Model} {A : Around} {E : Value → Shared → Prop} {i : Nat} {x : Str} {v : V} {u : Value} {Q : Unit → Shared → Prop} (I : Inv X pins σ H s) (hN : X.N.Nodup) (hi : X.N[i]? = some x) (hx : Loc X.env.scope x) (r : RelV v u)
    (h : ∀ s', Inv X pins (σ.set i (some v)) H s' → Q () s') (hf : X.fn x = true ∨ X.env.scope.names.lookup x = some .local := by first | exact .inl rfl | exact .inr rfl | assumption) : wpAny M A (storeName X.env x u) Q E s :=
  store_ok2 I hN hi hx r (fun s' I' _ => h s' I') hf
/-- behind a call or a block, the state as it is -/
theorem Inv.call' {s' : Shared} {ch : List Addr} (I : Inv X pins σ H s) (ho : s'.os = s.os) (u : Un (frs X.stack) ch H H' s.heap s'.heap) (hok : HOk X.prog X.w H' s'.heap) (hg : AllBare s'.gens)
    (hch : ∀ b ∈ ch, (b ∈ X.ex ∨ X.s₀.heap.objs.size ≤ b) ∧ b ≠ X.env.locals ∧ (∀ x c, X.env.cells.lookup x = some c → c ≠ b) ∧ ∀ p ∈ X.pn ++ pins, p.1 ≠ b) : Inv X pins σ H' s' := by
  obtain ⟨h', g', d', t', o'⟩ := s'
  have e : o' = s.os := ho
  subst e
  exact I.call (g' := g') (t' := t') (d' := d') u hok hg hch
end

/-! ### the judgements -/
/-- an exception: its class, its own dict's address (where it has one), the abstract heap behind it -/
abbrev XK := Value → Option Addr → Hp → Prop
abbrev St := List (Option V)
abbrev VK := V → Hp → Prop
/-- an expression's reading; a test's; an argument list's -/
abbrev TE := St → Hp → VK → Prop
abbrev TT := St → Hp → (Bool → Hp → Prop) → Prop
abbrev TA := St → Hp → (List V → Hp → Prop) → Prop
/-- what is wanted behind a statement -/
structure Ends where
  nx : St → Hp → Prop
  rt : VK
  bk : St → Hp → Prop := fun _ _ => False
  ct : St → Hp → Prop := fun _ _ => False
abbrev TS := Ends → St → Hp → Prop

def EP (X : Cx) (pins : List (Addr × Obj)) (σ : St) (Q : VK) (u : Value) (s' : Shared) : Prop := ∃ v H', Inv X pins σ H' s' ∧ RelV v u ∧ Q v H'
def TP (X : Cx) (pins : List (Addr × Obj)) (σ : St) (Q : Bool → Hp → Prop) (b : Bool) (s' : Shared) : Prop := ∃ H', Inv X pins σ H' s' ∧ Q b H'
def AP (X : Cx) (pins : List (Addr × Obj)) (σ : St) (Q : List V → Hp → Prop) (us : List Value) (s' : Shared) : Prop := ∃ vs H', Inv X pins σ H' s' ∧ Vals vs us ∧ Q vs H'
def SP (X : Cx) (pins : List (Addr × Obj)) (D : Ends) (f : Flow) (s' : Shared) : Prop :=
  match f with
  | .next => ∃ σ' H', Inv X pins σ' H' s' ∧ D.nx σ' H'
  | .brk => ∃ σ' H', Inv X pins σ' H' s' ∧ D.bk σ' H'
  | .cont => ∃ σ' H', Inv X pins σ' H' s' ∧ D.ct σ' H'
  | .ret u => ∃ v σ' H', Inv X pins σ' H' s' ∧ RelV v u ∧ D.rt v H'

def PE (X : Cx) (e : Expr) (t : TE) : Prop :=
  ∀ (pins : List (Addr × Obj)) (s : Shared) (σ : St) (H : Hp) (Q : VK), Inv X pins σ H s → t σ H Q → wpAny (model X.prog X.w) X.A (eval e X.env) (EP X pins σ Q) X.xe s
def PT (X : Cx) (e : Expr) (t : TT) : Prop :=
  ∀ (pins : List (Addr × Obj)) (s : Shared) (σ : St) (H : Hp) (Q : Bool → Hp → Prop), Inv X pins σ H s → t σ H Q → wpAny (model X.prog X.w) X.A (isTrue e X.env (eval e X.env)) (TP X pins σ Q) X.xe s
/-- a test whatever its 'whole' is (and, or) -/
def PW (X : Cx) (e : Expr) (t : TT) : Prop :=
  ∀ (whole : Sem Value) (pins : List (Addr × Obj)) (s : Shared) (σ : St) (H : Hp) (Q : Bool → Hp → Prop), Inv X pins σ H s → t σ H Q → wpAny (model X.prog X.w) X.A (isTrue e X.env whole) (TP X pins σ Q) X.xe s
theorem PW.pt {X : Cx} {e : Expr} {t : TT} (h : PW X e t) : PT X e t := h _
/-- an argument list (no star), from the left -/
def PA (X : Cx) (es : List Expr) (t : TA) : Prop :=
  ∀ (pos : Pos) (pins : List (Addr × Obj)) (s : Shared) (σ : St) (H : Hp) (Q : List V → Hp → Prop), Inv X pins σ H s → t σ H Q → wpAny (model X.prog X.w) X.A (spliced (backTo pos (starEach es X.env))) (AP X pins σ Q) X.xe s
def PS (X : Cx) (st : Stmt) (t : TS) : Prop :=
  ∀ (pins : List (Addr × Obj)) (s : Shared) (σ : St) (H : Hp) (D : Ends), Inv X pins σ H s → t D σ H → wpAny (model X.prog X.w) X.A (exec st X.env) (SP X pins D) X.xe s
def PSs (X : Cx) (st : List Stmt) (t : TS) : Prop :=
  ∀ (pins : List (Addr × Obj)) (s : Shared) (σ : St) (H : Hp) (D : Ends), Inv X pins σ H s → t D σ H → wpAny (model X.prog X.w) X.A (execs st X.env) (SP X pins D) X.xe s
/-- weaken the end -/
theorem thn {α : Type} {t : Sem α} {Q Q' : α → Shared → Prop} {M : Model} {A : Around} {E : Value → Shared → Prop} {s : Shared} (h : wpAny M A t Q E s) (hQ : ∀ a s, Q a s → Q' a s) : wpAny M A t Q' E s := wpAny_mono h hQ fun _ _ x => x
end L2

namespace L2
open PySem PySem.Spec PyProof.Rows
section
variable {X : Cx}

/-- two expressions in a row -/
theorem bin {a b : Expr} {ta tb : TE} (ha : PE X a ta) (hb : PE X b tb) {pins : List (Addr × Obj)} {s : Shared} {σ : St} {H : Hp} {R : V → V → Hp → Prop} (I : Inv X pins σ H s) (h : ta σ H fun x H1 => tb σ H1 fun y H2 => R x y H2)
    {α : Type} {Q : α → Shared → Prop} {f : Value → Value → Sem α}
    (hf : ∀ v u s2 x y H2, Inv X pins σ H2 s2 → RelV x v → RelV y u → R x y H2 → wpAny (model X.prog X.w) X.A (f v u) Q X.xe s2) :
    wpAny (model X.prog X.w) X.A (eval a X.env) (fun v s₁ => wpAny (model X.prog X.w) X.A (eval b X.env) (fun u s₂ => wpAny (model X.prog X.w) X.A (f v u) Q X.xe s₂) X.xe s₁) X.xe s := by
  refine thn (ha pins s σ H _ I h) fun v s1 ⟨x, H1, I1, r1, q1⟩ => ?_
  refine thn (hb pins s1 σ H1 _ I1 q1) fun u s2 ⟨y, H2, I2, r2, q2⟩ => ?_
  exact hf v u s2 x y H2 I2 r1 r2 q2

/-! ### names and constants -/
def tVar (i : Nat) : TE := fun σ H Q => ∃ v, σ[i]? = some (some v) ∧ Q v H
def tC (v : V) : TE := fun _ H Q => Q v H
theorem pe_var {i : Nat} {x : Str} {pos : Pos} (hN : X.N[i]? = some x) (hv : Vis X.env.scope x) (hd : (x == ("__debug__" : Str)) = false := by decide) (hcd : (x == ("__classdict__" : Str)) = false := by decide) : PE X (.Name x pos) (tVar i) := by
  intro pins s σ H Q I h
  obtain ⟨v, e, h⟩ := h
  obtain ⟨m, hn, hl⟩ := I.loc
  obtain ⟨u, r, l⟩ := hl i x v hN e hv
  have fin : EP X pins σ Q u s := ⟨v, H, I, r, h⟩
  rcases l with ⟨hk, hm⟩ | ⟨hk, c, hc, hcell⟩
  · exact wpAny_Name (wpAny_loadName_local I.ok.kind hk hn hm fin) hd
  · rcases hk with hk | hk
    · exact wpAny_Name (wpAny_loadName_cell I.ok.kind hk hc hcell fin) hd
    · exact wpAny_Name (wpAny_loadName_free I.ok.kind hk hc hcell fin hcd) hd
theorem pe_int {i j pos} : PE X (.Constant (.int i) j pos) (tC (.int i)) := fun _ _ _ H _ I h => wpAny_Constant_int ⟨.int i, H, I.tok _, ⟨_, rfl⟩, h⟩
theorem pe_bl {b j pos} : PE X (.Constant (.bool b) j pos) (tC (.bl b)) := fun _ _ _ H _ I h => Constant_bool ⟨.bl b, H, I, rfl, h⟩
theorem pe_non {j pos} : PE X (.Constant .none j pos) (tC .non) := fun _ _ _ H _ I h => Constant_none ⟨.non, H, I, rfl, h⟩
theorem pe_str {x j pos} : PE X (.Constant (.str x) j pos) (tC (.str x)) := fun _ _ _ H _ I h => Calls.Constant_str ⟨.str x, H, I.tok _, ⟨_, rfl⟩, h⟩

/-- a global name of the def -/
def Gl (X : Cx) (x : Str) : Prop := X.env.kindOf x = some .globalImplicit
theorem ld_glob {E : Value → Shared → Prop} {pins : List (Addr × Obj)} {s : Shared} {σ : St} {H : Hp} {x : Str} {u : Value} {pos : Pos} {Q : Value → Shared → Prop} (I : Inv X pins σ H s) (hg : Gl X x) (hm : X.mg x = some u) (h : Q u s)
    (hd : (x == ("__debug__" : Str)) = false := by decide) : wpAny (model X.prog X.w) X.A (eval (.Name x pos) X.env) Q E s :=
  Calls.Name_function_global I.ok.kind hg (Calls.loadGlobal_global (by rw [I.ok.glob]; exact I.mod.glob.keeps I.bk) hm h) hd
theorem ld_blt {E : Value → Shared → Prop} {pins : List (Addr × Obj)} {s : Shared} {σ : St} {H : Hp} {x : Str} {u : Value} {pos : Pos} {Q : Value → Shared → Prop} (I : Inv X pins σ H s) (hg : Gl X x) (hm : X.mg x = none) (hv : bootBuiltins x = some u) (h : Q u s)
    (hn : x ≠ "__name__" := by decide) (hd : (x == ("__debug__" : Str)) = false := by decide) : wpAny (model X.prog X.w) X.A (eval (.Name x pos) X.env) Q E s := by
  obtain ⟨mb, h1, h2⟩ := I.mod.blt
  exact Calls.Name_function_global I.ok.kind hg (Calls.loadGlobal_builtin (by rw [I.ok.glob]; exact I.mod.glob.keeps I.bk) hm (by rw [I.ok.blt]; exact h1.keeps I.bk) ((h2 x hn).trans hv) h) hd
/-- a module's constant, a class, a function, as a value -/
theorem pe_glob {x : Str} {v : V} {u : Value} {pos : Pos} (hg : Gl X x) (hm : X.mg x = some u) (r : RelV v u) (hd : (x == ("__debug__" : Str)) = false := by decide) : PE X (.Name x pos) (tC v) :=
  fun _ _ _ H _ I h => ld_glob I hg hm ⟨v, H, I, r, h⟩ hd
theorem pe_bltn {x : Str} {v : V} {u : Value} {pos : Pos} (hg : Gl X x) (hm : X.mg x = none) (hv : bootBuiltins x = some u) (r : RelV v u) (hn : x ≠ "__name__" := by decide) (hd : (x == ("__debug__" : Str)) = false := by decide) : PE X (.Name x pos) (tC v) :=
  fun _ _ _ H _ I h => ld_blt I hg hm hv ⟨v, H, I, r, h⟩ hn hd

/-! ### arithmetic -/
/-- two ints -/
def t2I (ta tb : TE) (k : Int → Int → Hp → Prop) : St → Hp → Prop := fun σ H => ta σ H fun x H1 => tb σ H1 fun y H2 => ∃ i j, x = .int i ∧ y = .int j ∧ k i j H2
def tAdd (ta tb : TE) : TE := fun σ H Q => t2I ta tb (fun i j H2 => Q (.int (i + j)) H2) σ H
def tSub (ta tb : TE) : TE := fun σ H Q => t2I ta tb (fun i j H2 => Q (.int (i - j)) H2) σ H
/-- the left factor below 2^64 -/
def tMul (ta tb : TE) : TE := fun σ H Q => t2I ta tb (fun i j H2 => (-(2 ^ 64) < i ∧ i < 2 ^ 64) ∧ Q (.int (i * j)) H2) σ H
variable {a b : Expr} {ta tb : TE} {pos : Pos}
/-! ### comparisons -/
def PC (X : Cx) (op : CmpOp) (a b : Expr) (t : TE) : Prop :=
  ∀ (pins : List (Addr × Obj)) (s : Shared) (σ : St) (H : Hp) (Q : VK), Inv X pins σ H s → t σ H Q →
    wpAny (model X.prog X.w) X.A (eval a X.env) (fun v s₁ => wpAny (model X.prog X.w) X.A (eval b X.env) (fun u s₂ => wpAny (model X.prog X.w) X.A (compareOp op v u) (EP X pins σ Q) X.xe s₂) X.xe s₁) X.xe s
def tCmp (p : Int → Int → Bool) (ta tb : TE) : TE := fun σ H Q => t2I ta tb (fun i j H2 => Q (.bl (p i j)) H2) σ H
abbrev tLt : TE → TE → TE := tCmp fun i j => decide (i < j)
abbrev tLe : TE → TE → TE := tCmp fun i j => decide (i ≤ j)
abbrev tGt : TE → TE → TE := tCmp fun i j => decide (j < i)
abbrev tGe : TE → TE → TE := tCmp fun i j => decide (j ≤ i)
abbrev tEqI : TE → TE → TE := tCmp fun i j => decide (i = j)
abbrev tNeI : TE → TE → TE := tCmp fun i j => !decide (i = j)
/-- is None -/
def tIsN (ta : TE) : TE := fun σ H Q => ta σ H fun x H1 => Q (.bl (decide (x = .non))) H1
def tNotN (ta : TE) : TE := fun σ H Q => ta σ H fun x H1 => Q (.bl (!decide (x = .non))) H1
/-- a comparison as a value, as a test -/
def tB (t : TE) : TT := fun σ H Q => t σ H fun x H1 => ∃ c, x = .bl c ∧ Q c H1
theorem pt_cmp {op : CmpOp} {t : TE} (h : PC X op a b t) (h1 : behindInMarks op b = false := by first | exact nobehind _ (by decide) (by decide) | rfl) : PT X (.Compare a [op] [b] pos) (tB t) := by
  intro pins s σ H Q I hw
  refine wpAny_isTrue_Compare1 (thn (h pins s σ H _ I hw) fun v s1 h1 => thn h1 fun u s2 h2 => thn h2 fun c s3 ⟨x, H1, I1, r1, q1⟩ => ?_) h1
  obtain ⟨d, rfl, q⟩ := q1
  cases r1
  exact wpAny_truthy_bool ⟨H1, I1, q⟩
/-- an expression whose value is a bool, as a test -/
theorem pt_val {e : Expr} {t : TE} (h : PE X e t) (he : ∀ whole, isTrue e X.env whole = (do let v ← whole; standAt e.pos; holding [v] (truthy v)) := by intro _; rfl) : PT X e (tB t) := by
  intro pins s σ H Q I hw
  refine isTrue_plain (thn (h pins s σ H _ I hw) fun v s1 ⟨x, H1, I1, r1, q1⟩ => ?_) (he _)
  obtain ⟨d, rfl, q⟩ := q1
  cases r1
  exact wpAny_truthy_bool ⟨H1, I1, q⟩

/-! ### and, or, not -/
variable {tA tB' : TT} {rest : List Expr}
def tAnd (t u : TT) : TT := fun σ H Q => t σ H fun c H1 => if c = true then u σ H1 Q else Q false H1
def tOr (t u : TT) : TT := fun σ H Q => t σ H fun c H1 => if c = true then Q true H1 else u σ H1 Q
def tNot (t : TT) : TT := fun σ H Q => t σ H fun c H1 => Q (!c) H1
theorem pw_and1 (ha : PT X a tA) : PW X (.BoolOp .And [a] pos) tA := by
  intro wh pins s σ H Q I h
  refine isTrue_and (thn (ha pins s σ H Q I h) fun c s1 e => ?_)
  cases c with
  | true => exact isTrue_and_nil e
  | false => exact e
theorem pw_or1 (ha : PT X a tA) : PW X (.BoolOp .Or [a] pos) tA := by
  intro wh pins s σ H Q I h
  refine isTrue_or (thn (ha pins s σ H Q I h) fun c s1 e => ?_)
  cases c with
  | false => exact isTrue_or_nil e
  | true => exact e
theorem pw_and (ha : PT X a tA) (hb : PW X (.BoolOp .And (b :: rest) pos) tB') : PW X (.BoolOp .And (a :: b :: rest) pos) (tAnd tA tB') := by
  intro wh pins s σ H Q I h
  refine isTrue_and (thn (ha pins s σ H _ I h) fun c s1 ⟨H1, I1, q1⟩ => ?_)
  cases c with
  | true => exact hb wh pins s1 σ H1 Q I1 q1
  | false => exact ⟨H1, I1, q1⟩
theorem pw_or (ha : PT X a tA) (hb : PW X (.BoolOp .Or (b :: rest) pos) tB') : PW X (.BoolOp .Or (a :: b :: rest) pos) (tOr tA tB') := by
  intro wh pins s σ H Q I h
  refine isTrue_or (thn (ha pins s σ H _ I h) fun c s1 ⟨H1, I1, q1⟩ => ?_)
  cases c with
  | true => exact ⟨H1, I1, q1⟩
  | false => exact hb wh pins s1 σ H1 Q I1 q1
theorem pt_not (ha : PT X a tA) : PT X (.UnaryOp .Not a pos) (tNot tA) := by
  intro pins s σ H Q I h
  exact isTrue_not (ha pins s σ H (fun c H1 => Q (!c) H1) I h)
/-- .. as values (bools) -/
def tAndV (ta tb : TE) : TE := fun σ H Q => ta σ H fun x H1 => ∃ c, x = .bl c ∧ if c = true then tb σ H1 Q else Q (.bl false) H1
def tOrV (ta tb : TE) : TE := fun σ H Q => ta σ H fun x H1 => ∃ c, x = .bl c ∧ if c = true then Q (.bl true) H1 else tb σ H1 Q
def tNotV (ta : TE) : TE := fun σ H Q => ta σ H fun x H1 => ∃ c, x = .bl c ∧ Q (.bl (!c)) H1
theorem pe_one {op} {t : TE} (h : PE X a t) : PE X (.BoolOp op [a] pos) t := fun pins s σ H Q I hw => BoolOp_one (h pins s σ H Q I hw)
theorem pe_and (ha : PE X a ta) (hb : PE X (.BoolOp .And (b :: rest) pos) tb) : PE X (.BoolOp .And (a :: b :: rest) pos) (tAndV ta tb) := by
  intro pins s σ H Q I h
  refine BoolOp_and (thn (ha pins s σ H _ I h) fun v s1 ⟨x, H1, I1, r1, q1⟩ => ?_)
  obtain ⟨c, rfl, q1⟩ := q1
  cases r1
  refine wpAny_truthy_bool ?_
  cases c with
  | true => exact hb pins s1 σ H1 Q I1 q1
  | false => exact ⟨.bl false, H1, I1, rfl, q1⟩
theorem pe_or (ha : PE X a ta) (hb : PE X (.BoolOp .Or (b :: rest) pos) tb) : PE X (.BoolOp .Or (a :: b :: rest) pos) (tOrV ta tb) := by
  intro pins s σ H Q I h
  refine BoolOp_or (thn (ha pins s σ H _ I h) fun v s1 ⟨x, H1, I1, r1, q1⟩ => ?_)
  obtain ⟨c, rfl, q1⟩ := q1
  cases r1
  refine wpAny_truthy_bool ?_
  cases c with
  | false => exact hb pins s1 σ H1 Q I1 q1
  | true => exact ⟨.bl true, H1, I1, rfl, q1⟩
theorem pe_not (ha : PE X a ta) : PE X (.UnaryOp .Not a pos) (tNotV ta) := by
  intro pins s σ H Q I h
  refine UnaryOp_ (thn (ha pins s σ H _ I h) fun v s1 ⟨x, H1, I1, r1, q1⟩ => ?_)
  obtain ⟨c, rfl, q1⟩ := q1
  cases r1
  exact not_of (wpAny_truthy_bool ⟨.bl (!c), H1, I1, rfl, q1⟩)
/-- a if t else b -/
def tIf (t : TT) (ta tb : TE) : TE := fun σ H Q => t σ H fun c H1 => if c = true then ta σ H1 Q else tb σ H1 Q
theorem pe_ifExp {c : Expr} (hc : PT X c tA) (ha : PE X a ta) (hb : PE X b tb) : PE X (.IfExp c a b pos) (tIf tA ta tb) := by
  intro pins s σ H Q I h
  refine wpAny_IfExp (thn (hc pins s σ H _ I h) fun d s1 ⟨H1, I1, q1⟩ => ?_)
  cases d with
  | true => exact ha pins s1 σ H1 Q I1 q1
  | false => exact hb pins s1 σ H1 Q I1 q1
end
end L2

namespace L2
open PySem PySem.Spec PyProof.Rows

/-! ### a list, a tuple that is read: tracked, frozen, or an object of the module -/
def SqL (K : PySem.W.Frag) (H : Hp) (a : Addr) (xs : List V) : Prop :=
  Rd H a (.lst xs) ∨
    ∃ (o : Obj) (its : Array Value) (n : Nat), K.lookup a = some o ∧ o.cls = .type "list" ∧ o.dict = none ∧ o.data = .seq its n ∧ its.size ≤ sizeLine ∧ Vals xs its.toList
def SqT (K : PySem.W.Frag) (H : Hp) (a : Addr) (xs : List V) : Prop :=
  Rd H a (.tup xs) ∨
    ∃ (o : Obj) (its : Array Value) (n : Nat), K.lookup a = some o ∧ o.cls = .type "tuple" ∧ o.data = .seq its n ∧ its.size ≤ sizeLine ∧ Vals xs its.toList
def absV : Value → Option V
  | .none => some .non
  | .bool b => some (.bl b)
  | .int i _ => some (.int i)
  | .str x _ => some (.str x)
  | .bytes b _ => some (.byt b)
  | .float b _ => some (.flt b)
  | .ref a => some (.ref a)
  | .type n => some (.ty n)
  | _ => none
theorem RelV.abs {x : V} {u : Value} (r : RelV x u) : absV u = some x := by
  cases x with
  | non => cases r; rfl
  | bl _ => cases r; rfl
  | int _ => obtain ⟨t, rfl⟩ := r; rfl
  | str _ => obtain ⟨t, rfl⟩ := r; rfl
  | byt _ => obtain ⟨t, rfl⟩ := r; rfl
  | flt _ => obtain ⟨t, rfl⟩ := r; rfl
  | ref _ => cases r; rfl
  | ty _ => cases r; rfl
theorem RelV.inj {x y : V} {u : Value} (r : RelV x u) (q : RelV y u) : x = y := Option.some.inj (r.abs.symm.trans q.abs)
theorem Vals.inj : ∀ {xs ys : List V} {us : List Value}, Vals xs us → Vals ys us → xs = ys
  | _, _, _, .nil, .nil => rfl
  | _, _, _, .cons r t, .cons r' t' => by rw [r.inj r', Vals.inj t t']
section
variable {X : Cx} {pins : List (Addr × Obj)} {σ : St} {H : Hp} {s : Shared} {a : Addr} {xs ys : List V}
theorem SqL.of {K : PySem.W.Frag} (h : H a = some (.lst xs)) : SqL K H a xs := .inl (.inl h)
theorem SqT.of {K : PySem.W.Frag} (h : H a = some (.tup xs)) : SqT K H a xs := .inl (.inl h)
theorem Inv.list (I : Inv X pins σ H s) (h : SqL X.K H a xs) : ∃ its : List Value, Vals xs its ∧ PlainL s.heap a its.toArray ∧ xs.length ≤ sizeLine := by
  rcases h with h | ⟨o, its, n, hk, hc, hd, hs, hz, r⟩
  · obtain ⟨z, its, n, r, e⟩ := h.ok I.hok
    exact ⟨its, r, ⟨_, n, e, rfl, rfl, rfl⟩, z⟩
  · refine ⟨its.toList, r, ⟨o, n, I.kIn a o hk, hc, hd, by simpa using hs⟩, ?_⟩
    have e := r.length
    simp only [Array.length_toList] at e
    omega
theorem Inv.tuple (I : Inv X pins σ H s) (h : SqT X.K H a xs) : ∃ its : List Value, Vals xs its ∧ IsTup s.heap a its.toArray ∧ xs.length ≤ sizeLine := by
  rcases h with h | ⟨o, its, n, hk, hc, hs, hz, r⟩
  · obtain ⟨z, its, r, p⟩ := h.ok I.hok
    exact ⟨its, r, p, z⟩
  · refine ⟨its.toList, r, ⟨o, I.kIn a o hk, hc, n, by simpa using hs⟩, ?_⟩
    have e := r.length
    simp only [Array.length_toList] at e
    omega
theorem Inv.list_inj (I : Inv X pins σ H s) (h : SqL X.K H a xs) (h' : SqL X.K H a ys) : xs = ys := by
  obtain ⟨its, r, ⟨o, n, e, _, _, d⟩, _⟩ := I.list h
  obtain ⟨its', r', ⟨o', n', e', _, _, d'⟩, _⟩ := I.list h'
  rw [e] at e'; cases e'
  rw [d] at d'
  injection d' with d1 _
  have : its = its' := by simpa using congrArg Array.toList d1
  subst this
  exact r.inj r'
theorem Inv.tuple_inj (I : Inv X pins σ H s) (h : SqT X.K H a xs) (h' : SqT X.K H a ys) : xs = ys := by
  obtain ⟨its, r, ⟨o, e, _, n, d⟩, _⟩ := I.tuple h
  obtain ⟨its', r', ⟨o', e', _, n', d'⟩, _⟩ := I.tuple h'
  rw [e] at e'; cases e'
  rw [d] at d'
  injection d' with d1 _
  have : its = its' := by simpa using congrArg Array.toList d1
  subst this
  exact r.inj r'
end

/-! ### another wish about exceptions -/
abbrev Cx.wish (X : Cx) (E : Value → Shared → Prop) : Cx := { X with xe := E }
/-- no exception leaves -/
abbrev Cx.nox (X : Cx) : Cx := X.wish fun _ _ => False
theorem Cx.Ok.wish {X : Cx} (ok : X.Ok) (E : Value → Shared → Prop) : (X.wish E).Ok :=
  ⟨ok.mod, ok.kind, ok.glob, ok.blt, ok.above, ok.inj, ok.has, ok.cab, ok.hd, ok.frames, ok.stk, ok.exf, ok.bs, ok.bsz, ok.noex, ok.exfs, ok.funs, ok.frf⟩
theorem Cx.Ok.unwish {X : Cx} {E : Value → Shared → Prop} (ok : (X.wish E).Ok) : X.Ok :=
  ⟨ok.mod, ok.kind, ok.glob, ok.blt, ok.above, ok.inj, ok.has, ok.cab, ok.hd, ok.frames, ok.stk, ok.exf, ok.bs, ok.bsz, ok.noex, ok.exfs, ok.funs, ok.frf⟩
section
variable {X : Cx} {pins : List (Addr × Obj)} {σ : St} {H : Hp} {s : Shared} {E : Value → Shared → Prop}
theorem Inv.wish (I : Inv X pins σ H s) (E : Value → Shared → Prop) : Inv (X.wish E) pins σ H s := ⟨I.ok.wish E, I.os, I.bare, I.base, I.loc, I.cell, I.free, I.freeC, I.pin, I.hok, I.len⟩
theorem Inv.unwish (I : Inv (X.wish E) pins σ H s) : Inv X pins σ H s := ⟨I.ok.unwish, I.os, I.bare, I.base, I.loc, I.cell, I.free, I.freeC, I.pin, I.hok, I.len⟩
theorem SP.unwish {D : Ends} {f : Flow} {s' : Shared} (h : SP (X.wish E) pins D f s') : SP X pins D f s' := by
  cases f with
  | next => obtain ⟨σ', H', I, q⟩ := h; exact ⟨σ', H', I.unwish, q⟩
  | brk => obtain ⟨σ', H', I, q⟩ := h; exact ⟨σ', H', I.unwish, q⟩
  | cont => obtain ⟨σ', H', I, q⟩ := h; exact ⟨σ', H', I.unwish, q⟩
  | ret u => obtain ⟨v, σ', H', I, r, q⟩ := h; exact ⟨v, σ', H', I.unwish, r, q⟩
theorem PSs.nox {st : List Stmt} {t : TS} (h : PSs X.nox st t) : PSs X st t := fun pins s σ H D I hw =>
  wpAny_mono (h pins s σ H D (I.wish _) hw) (fun _ _ q => q.unwish) fun _ _ z => False.elim z
end

/-! ### blocks and small statements -/
section
variable {X : Cx} {st : Stmt} {rest : List Stmt} {t u : TS} {e : Expr} {te : TE} {pos : Pos}
def tNext : TS := fun D σ H => D.nx σ H
def tSeq (t u : TS) : TS := fun D σ H => t { D with nx := u D } σ H
theorem pss_nil : PSs X [] tNext := fun _ _ σ H _ I h => wpAny_execs_nil ⟨σ, H, I, h⟩
theorem pss_cons (h1 : PS X st t) (h2 : PSs X rest u) : PSs X (st :: rest) (tSeq t u) := by
  intro pins s σ H D I h
  refine wpAny_execs_cons (thn (h1 pins s σ H { D with nx := u D } I h) fun f s1 q => ?_)
  cases f with
  | next =>
    obtain ⟨σ', H', I', q⟩ := q
    exact h2 pins s1 σ' H' D I' q
  | ret v => exact q
  | brk => exact q
  | cont => exact q
theorem pss_one (h1 : PS X st t) : PSs X [st] t := by
  intro pins s σ H D I h
  refine wpAny_execs_cons (thn (h1 pins s σ H D I h) fun f s1 q => ?_)
  cases f with
  | next => exact wpAny_execs_nil q
  | ret v => exact q
  | brk => exact q
  | cont => exact q
def tBreak : TS := fun D σ H => D.bk σ H
def tCont : TS := fun D σ H => D.ct σ H
/-- in a def's body nothing is shown -/
theorem Inv.quiet {pins : List (Addr × Obj)} {σ : St} {H : Hp} {s : Shared} (I : Inv X pins σ H s) : interactive X.env = false := by simp [interactive, I.ok.kind]
/-- an expression whose value is dropped -/
def tDrop (te : TE) : TS := fun D σ H => te σ H fun _ H1 => D.nx σ H1
theorem ps_expr (he : PE X e te) (hs : swapsWith e none pos.line X.env = pure false := by rfl) : PS X (.Expr e pos) (tDrop te) := by
  intro pins s σ H D I h
  exact wpAny_Expr_any (thn (he pins s σ H _ I h) fun v s1 ⟨x, H1, I1, r1, q1⟩ => ⟨σ, H1, I1, q1⟩) I.quiet hs
def tRet (te : TE) : TS := fun D σ H => te σ H D.rt
theorem ps_ret (he : PE X e te) : PS X (.Return (some e) pos) (tRet te) := by
  intro pins s σ H D I h
  exact wpAny_Return_some (thn (he pins s σ H _ I h) fun v s1 ⟨x, H1, I1, r1, q1⟩ => ⟨x, σ, H1, I1, r1, q1⟩)
def tRetN : TS := fun D _ H => D.rt .non H
def tIfS (c : TT) (t u : TS) : TS := fun D σ H => c σ H fun b H1 => if b = true then t D σ H1 else u D σ H1
theorem ps_if {c : Expr} {a b : List Stmt} {tc : TT} (hc : PT X c tc) (ha : PSs X a t) (hb : PSs X b u) : PS X (.If c a b pos) (tIfS tc t u) := by
  intro pins s σ H D I h
  refine wpAny_If (thn (hc pins s σ H _ I h) fun d s1 ⟨H1, I1, q1⟩ => ?_)
  cases d with
  | true => exact ha pins s1 σ H1 D I1 q1
  | false => exact hb pins s1 σ H1 D I1 q1
/-- code that the proof never comes to -/
def tNever : TS := fun _ _ _ => False
theorem pss_never {sts : List Stmt} : PSs X sts tNever := fun _ _ _ _ _ _ h => h.elim
end

/-! ### targets -/
abbrev TG := V → St → Hp → (St → Hp → Prop) → Prop
abbrev TGs := List V → St → Hp → (St → Hp → Prop) → Prop
def PG (X : Cx) (target : Expr) (t : TG) : Prop :=
  ∀ (pins : List (Addr × Obj)) (s : Shared) (σ : St) (H : Hp) (v : V) (u : Value) (Q : St → Hp → Prop), Inv X pins σ H s → RelV v u → t v σ H Q →
    wpAny (model X.prog X.w) X.A (assign target X.env u) (fun _ s' => ∃ σ' H', Inv X pins σ' H' s' ∧ Q σ' H') X.xe s
/-- several targets, one after another -/
def PGs (X : Cx) (ts : List Expr) (t : TGs) : Prop :=
  ∀ (pins : List (Addr × Obj)) (s : Shared) (σ : St) (H : Hp) (vs : List V) (us : List Value) (Q : St → Hp → Prop), Inv X pins σ H s → Vals vs us → t vs σ H Q →
    wpAny (model X.prog X.w) X.A (assignInOrder ((assignEach ts X.env).map (·.2)) us) (fun _ s' => ∃ σ' H', Inv X pins σ' H' s' ∧ Q σ' H') X.xe s
/-- o[i] = v, by values -/
abbrev TSet := V → V → V → Hp → (Hp → Prop) → Prop
def PSet (X : Cx) (t : TSet) : Prop :=
  ∀ (pins : List (Addr × Obj)) (s : Shared) (σ : St) (H : Hp) (o i v : V) (ov iv u : Value) (Q : Hp → Prop), Inv X pins σ H s → RelV o ov → RelV i iv → RelV v u → t o i v H Q →
    wpAny (model X.prog X.w) X.A (setItem ov iv u) (fun _ s' => ∃ H', Inv X pins σ H' s' ∧ Q H') X.xe s
/-- a op= b, by values -/
abbrev TIp := V → V → Hp → VK → Prop
def PIp (X : Cx) (op : Operator) (t : TIp) : Prop :=
  ∀ (pins : List (Addr × Obj)) (s : Shared) (σ : St) (H : Hp) (x y : V) (v u : Value) (Q : VK), Inv X pins σ H s → RelV x v → RelV y u → t x y H Q →
    wpAny (model X.prog X.w) X.A (inplaceOp op v u) (EP X pins σ Q) X.xe s
section
variable {X : Cx} {pos : Pos}
def gName (i : Nat) : TG := fun v σ H Q => Q (σ.set i (some v)) H
theorem pg_name {i : Nat} {x : Str} (hN : X.N.Nodup) (hi : X.N[i]? = some x) (hx : Loc X.env.scope x) (hf : X.fn x = true ∨ X.env.scope.names.lookup x = some .local := by first | exact .inl rfl | exact .inr rfl | assumption) : PG X (.Name x pos) (gName i) := by
  intro pins s σ H v u Q I r h
  exact wpAny_assign_Name (store_ok I hN hi hx r (fun s' I' => ⟨_, H, I', h⟩) hf)
def gNil : TGs := fun vs σ H Q => vs = [] ∧ Q σ H
def gCons (t : TG) (u : TGs) : TGs := fun vs σ H Q => ∃ v r, vs = v :: r ∧ t v σ H fun σ' H' => u r σ' H' Q
theorem pgs_nil : PGs X [] gNil := by
  intro pins s σ H vs us Q I r h
  obtain ⟨e, h⟩ := h
  subst e
  cases r
  exact assignInOrder_nil ⟨σ, H, I, h⟩
theorem pgs_cons {e : Expr} {es : List Expr} {t : TG} {u : TGs} (h1 : PG X e t) (h2 : PGs X es u)
    (hs : (assignEach (e :: es) X.env).map (·.2) = assign e X.env :: (assignEach es X.env).map (·.2) := by rfl) : PGs X (e :: es) (gCons t u) := by
  intro pins s σ H vs us Q I r h
  obtain ⟨v, vr, e1, h⟩ := h
  subst e1
  cases r with
  | cons r rr =>
    rw [hs]
    refine assignInOrder_cons (thn (h1 pins s σ H _ _ _ I r h) fun _ s1 ⟨σ1, H1, I1, q1⟩ => ?_)
    exact h2 pins s1 σ1 H1 _ _ Q I1 rr q1
/-- (a, b, ..) = a tuple of that length -/
def gTup (K : PySem.W.Frag) (n : Nat) (t : TGs) : TG := fun v σ H Q => ∃ a xs, v = .ref a ∧ SqT K H a xs ∧ xs.length = n ∧ t xs σ H Q
theorem pg_tup {es : List Expr} {k : Nat} {t : TGs} {n : Nat} (hc : X.calm = true) (h : PGs X es t)
    (hn : (assignEach es X.env).length = n := by rfl) (hst : (assignEach es X.env).findIdx? (·.1) = none := by rfl) : PG X (.Tuple es k pos) (gTup X.K n t) := by
  intro pins s σ H v u Q I r hw
  obtain ⟨a, xs, e1, hq, hl, hw⟩ := hw
  subst e1
  cases r
  obtain ⟨its, rv, ht, hz⟩ := I.tuple hq
  refine assign_Tuple_tuple (I.ok.hd hc) ht (by simp [hn, ← hl, rv.length]) hst fun h' hx => ?_
  have I1 : Inv X pins σ H { s with heap := h' } := I.kept (t' := s.toks) fun b o e => hx b o (Nat.ne_of_lt (Heap.lt_size e)) e
  exact h pins _ σ H xs _ Q I1 (by simpa using rv) hw
/-- o[i] = .. -/
def gSub (to ti : TE) (t : TSet) : TG := fun v σ H Q => to σ H fun o H1 => ti σ H1 fun i H2 => t o i v H2 fun H3 => Q σ H3
theorem pg_sub {o i : Expr} {to ti : TE} {t : TSet} (ho : PE X o to) (hi : PE X i ti) (hs : PSet X t)
    (ha : ∀ v, assign (.Subscript o i pos) X.env v = (do
      let ov ← holding [v] (eval o X.env)
      let iv ← holding [v, ov] (eval i X.env)
      standAt pos
      holding [v, ov, iv] (setItem ov iv v)
      release [v, ov, iv] []) := by intro _; rfl) : PG X (.Subscript o i pos) (gSub to ti t) := by
  intro pins s σ H v u Q I r h
  rw [ha]
  refine wpAny_bind (wpAny_holding (thn (ho pins s σ H _ I h) fun ov s1 ⟨x, H1, I1, r1, q1⟩ => ?_))
  refine wpAny_bind (wpAny_holding (thn (hi pins s1 σ H1 _ I1 q1) fun iv s2 ⟨y, H2, I2, r2, q2⟩ => ?_))
  refine wpAny_bind (wpAny_standAt (wpAny_bind (wpAny_holding (thn (hs pins s2 σ H2 x y v ov iv u _ I2 r1 r2 r q2) fun _ s3 ⟨H3, I3, q3⟩ => ?_))))
  exact wpAny_release ⟨σ, H3, I3, q3⟩
/-- target = value -/
def tAsg (te : TE) (g : TG) : TS := fun D σ H => te σ H fun x H1 => g x σ H1 D.nx
theorem ps_asg {tg e : Expr} {te : TE} {g : TG} (he : PE X e te) (hg : PG X tg g) (hs : swapsWithSole [tg] e pos.line X.env = pure false := by rfl) (hw : swappedStores [tg] e X.env = pure none := by rfl)
    (h1 : (assignEach [tg] X.env).map (·.2) = [assign tg X.env] := by rfl) : PS X (.Assign [tg] e pos) (tAsg te g) := by
  intro pins s σ H D I h
  refine wpAny_Assign_stores (thn (he pins s σ H _ I h) fun v s1 ⟨x, H1, I1, r1, q1⟩ => ?_) hs hw
  rw [h1]
  exact thn (hg pins s1 σ H1 x v _ I1 r1 q1) fun _ s2 q => q
/-- name = value -/
theorem ps_set {i : Nat} {x : Str} {e : Expr} {te : TE} {pos' : Pos} (hN : X.N.Nodup) (hi : X.N[i]? = some x) (hx : Loc X.env.scope x) (he : PE X e te) (hs : swapsWith e (some (.Name x pos')) pos.line X.env = pure false := by rfl) (hf : X.fn x = true ∨ X.env.scope.names.lookup x = some .local := by first | exact .inl rfl | exact .inr rfl | assumption) :
    PS X (.Assign [.Name x pos'] e pos) (tAsg te (gName i)) := by
  intro pins s σ H D I h
  refine wpAny_Assign_Name (thn (he pins s σ H _ I h) fun v s1 ⟨y, H1, I1, r1, q1⟩ => ?_) hs
  exact store_ok I1 hN hi hx r1 (fun s2 I2 => ⟨_, H1, I2, q1⟩) hf
/-- a, b = x, y with plain local names: stored from the right; the pair itself is not tracked (the opening rows as in PyProof/Rows/TupAssign.lean:23) -/
def tPar (i j : Nat) (ta : TA) : TS := fun D σ H => ta σ H fun vs H1 => ∃ v w, vs = [v, w] ∧ D.nx ((σ.set i (some v)).set j (some w)) H1
/-- name op= e -/
def tAug (i : Nat) (te : TE) (ti : TIp) : TS := fun D σ H => ∃ x, σ[i]? = some (some x) ∧ te σ H fun y H1 => ti x y H1 fun z H2 => D.nx (σ.set i (some z)) H2
/-- o[i] op= e -/
def tAugS (to ti te : TE) (tget : V → V → Hp → VK → Prop) (tip : TIp) (tset : TSet) : TS := fun D σ H => to σ H fun o H1 => ti σ H1 fun i H2 => tget o i H2 fun x H3 => te σ H3 fun y H4 => tip x y H4 fun z H5 => tset o i z H5 fun H6 => D.nx σ H6
/-- o[i], by values -/
def PGet (X : Cx) (t : V → V → Hp → VK → Prop) : Prop :=
  ∀ (pins : List (Addr × Obj)) (s : Shared) (σ : St) (H : Hp) (o i : V) (ov iv : Value) (Q : VK), Inv X pins σ H s → RelV o ov → RelV i iv → t o i H Q →
    wpAny (model X.prog X.w) X.A (getItem ov iv) (EP X pins σ Q) X.xe s
/-- ints -/
def ipI (f : Int → Int → Int) : TIp := fun x y H Q => ∃ i j, x = .int i ∧ y = .int j ∧ Q (.int (f i j)) H
end

/-! ### while -/
section
variable {X : Cx} {pos : Pos}
/-- the invariant W with its measure -/
def tWhile (c : TT) (tb : TS) : TS := fun D σ H => ∃ W : Nat → St → Hp → Prop, (∃ m, W m σ H) ∧ ∀ m σ H, W m σ H →
  c σ H fun b H1 => if b = true then ∃ N : St → Hp → Prop, (∀ σ' H', N σ' H' → ∃ m', m' < m ∧ W m' σ' H') ∧ tb { D with nx := N, ct := N, bk := D.nx } σ H1 else D.nx σ H1
theorem ps_while {c : Expr} {body : List Stmt} {tc : TT} {tb : TS} (hp : PassesOwn (model X.prog X.w) X.A X.env X.xe) (hc : PT X c tc) (hb : PSs X body tb) : PS X (.While c body [] pos) (tWhile tc tb) := by
  intro pins s σ H D I h
  obtain ⟨W, ⟨m0, w0⟩, turn⟩ := h
  refine wpAny_While (codeAny_whileLoop (fun n s' => ∃ σ' H', Inv X pins σ' H' s' ∧ W n σ' H') ?_ m0 ⟨σ, H, I, w0⟩)
  rintro n s1 ⟨σ1, H1, I1, w1⟩
  refine wpAny_passesOwn hp (thn (hc pins s1 σ1 H1 _ I1 (turn n σ1 H1 w1)) fun b s2 ⟨H2, I2, q2⟩ => ?_)
  cases b with
  | true =>
    obtain ⟨N, hN, q2⟩ := q2
    rw [if_pos rfl]
    refine wpAny_passesOwn hp (thn (hb pins s2 σ1 H2 _ I2 q2) fun f s3 q3 => ?_)
    cases f with
    | next =>
      obtain ⟨σ3, H3, I3, n3⟩ := q3
      obtain ⟨m', hm, w3⟩ := hN σ3 H3 n3
      exact ⟨m', hm, σ3, H3, I3, w3⟩
    | cont =>
      obtain ⟨σ3, H3, I3, n3⟩ := q3
      obtain ⟨m', hm, w3⟩ := hN σ3 H3 n3
      exact ⟨m', hm, σ3, H3, I3, w3⟩
    | brk => exact q3
    | ret v => exact q3
  | false =>
    rw [if_neg Bool.false_ne_true]
    exact wpAny_execs_nil ⟨σ1, H2, I2, q2⟩
end

/-! ### what a loop or a comprehension walks -/
/-- at turn i: it yields x (the heap may grow), or it stops -/
structure It where
  go : Nat → Hp → Prop
  yld : Nat → Hp → V → Hp → Prop
  stop : Nat → Hp → Prop
/-- the iterator's own objects may turn: they are not the frame's, not pinned, younger than the entry (or a comprehension's own) -/
def FpOk (X : Cx) (pins : List (Addr × Obj)) (H : Hp) (b : Addr) : Prop :=
  H b = none ∧ b ≠ X.env.locals ∧ b ∉ X.fs ∧ (b ∈ X.ex ∨ X.s₀.heap.objs.size ≤ b) ∧ (∀ x c, X.env.cells.lookup x = some c → c ≠ b) ∧ ∀ p ∈ X.pn ++ pins, p.1 ≠ b
theorem Inv.fpOk {X : Cx} {pins : List (Addr × Obj)} {σ : St} {H H' : Hp} {s : Shared} {b : Addr} (I : Inv X pins σ H s) (hb : s.heap.objs.size ≤ b) (hn : H' b = none) : FpOk X pins H' b := by
  refine ⟨hn, Nat.ne_of_gt (Nat.lt_of_lt_of_le I.lt hb), I.nofs hb, .inr (Nat.le_trans I.sz hb), fun x c e z => ?_, fun p hp z => ?_⟩
  · obtain ⟨v, q⟩ := I.cell x c e
    exact absurd (Nat.lt_of_lt_of_le q.lt (by rw [z]; exact hb)) (Nat.lt_irrefl _)
  · exact absurd (Nat.lt_of_lt_of_le (Heap.lt_size (I.pin p hp).1) (by rw [z]; exact hb)) (Nat.lt_irrefl _)
structure Turn (P : Program) (w : World) (K : PySem.W.Frag) (tg : Expr) (J : It) (fp : List Addr) (it : Addr) (tn : Nat → Heap → Prop) : Prop where
  mem : it ∈ fp
  obj : ∀ i h, tn i h → ∀ b ∈ fp, ∃ o, h.get? b = some o ∧ ∀ v, o.data ≠ .cell v
  keep : ∀ i h h', tn i h → (∀ b ∈ fp, ∀ o, h.get? b = some o → h'.get? b = some o) → tn i h'
  item : ∀ (X : Cx), X.prog = P → X.w = w → X.K = K → X.calm = true → ∀ (i : Nat) (pins : List (Addr × Obj)) (s : Shared) (σ : St) (H : Hp) (E : Value → Shared → Prop), Inv X pins σ H s → (∀ b ∈ fp, FpOk X pins H b) → tn i s.heap → J.go i H →
    wpAny (model P w) X.A (pyNext (.ref it)) (fun r s1 => ∃ u, r = some u ∧
      wpAny (model P w) X.A (letOwnedTupleGo tg (.ref it) u) (fun _ s2 => ∃ x H', Inv X pins σ H' s2 ∧ RelV x u ∧ J.yld i H x H' ∧ tn (i + 1) s2.heap ∧ ∀ b ∈ fp, H' b = none) E s1) E s
  done : ∀ (X : Cx), X.prog = P → X.w = w → X.K = K → X.calm = true → ∀ (i : Nat) (pins : List (Addr × Obj)) (s : Shared) (σ : St) (H : Hp) (E : Value → Shared → Prop), Inv X pins σ H s → (∀ b ∈ fp, FpOk X pins H b) → tn i s.heap → J.stop i H →
    wpAny (model P w) X.A (pyNext (.ref it)) (fun r s1 => r = none ∧ Inv X pins σ H s1) E s
  self : ∀ (A : Around) (i : Nat) (s : Shared) (Q : Value → Shared → Prop) (E : Value → Shared → Prop), tn i s.heap → Q (.ref it) s → wpAny (model P w) A (pyIter (.ref it)) Q E s
abbrev TI := St → Hp → (It → Hp → Prop) → Prop
/-- an iterator has come -/
def PIE (X : Cx) (pins : List (Addr × Obj)) (σ : St) (tg : Expr) (R : It → Hp → Prop) (itv : Value) (s2 : Shared) : Prop :=
  ∃ (it : Addr) (fp : List Addr) (tn : Nat → Heap → Prop) (J : It) (H' : Hp), itv = .ref it ∧ Inv X pins σ H' s2 ∧ Turn X.prog X.w X.K tg J fp it tn ∧ tn 0 s2.heap ∧ (∀ b ∈ fp, FpOk X pins H' b) ∧ R J H'
def PI (X : Cx) (tg iter : Expr) (wi : TI) : Prop :=
  ∀ (pins : List (Addr × Obj)) (s : Shared) (σ : St) (H : Hp) (R : It → Hp → Prop), Inv X pins σ H s → wi σ H R →
    wpAny (model X.prog X.w) X.A (eval iter X.env) (fun v s1 => wpAny (model X.prog X.w) X.A (pyIter v) (PIE X pins σ tg R) X.xe s1) X.xe s

/-- the step ahead of the store is nothing for an iterator that keeps no tuple -/
theorem go_of {M : Model} {A : Around} {E : Value → Shared → Prop} {s : Shared} {tg : Expr} {it : Addr} {u : Value} {o : Obj} {n : String} {vs : Array Value} {Q : Unit → Shared → Prop} (ho : s.heap.get? it = some o) (hc : o.cls = .type n) (hd : o.data = .fields vs)
    (hn : ["enumerate", "zip", "dict_itemiterator", "dict_reverseitemiterator", "odict_iterator", "itertools.zip_longest", "itertools.pairwise"].contains n = false) (hQ : Q () s) : wpAny M A (letOwnedTupleGo tg (.ref it) u) Q E s := by
  unfold letOwnedTupleGo
  cases tg <;> first
    | exact wpAny_pure hQ
    | (cases u <;> first
        | exact wpAny_pure hQ
        | (refine wpAny_bind (wpAny_load ho ?_)
           rw [hc, hd]
           show wpAny M A (if (["enumerate", "zip", "dict_itemiterator", "dict_reverseitemiterator", "odict_iterator", "itertools.zip_longest", "itertools.pairwise"].contains n && vs[0]? == some (rawInt _)) = true then _ else _) Q E s
           rw [if_neg (by intro h; rw [hn, Bool.false_and] at h; cases h)]
           exact wpAny_pure hQ))

/-- the list at a, as it stands at each turn (a loop may append to it) -/
def Itl (K : PySem.W.Frag) (a : Addr) : It :=
  ⟨fun i H => ∃ xs x, SqL K H a xs ∧ xs[i]? = some x, fun i H x H' => H' = H ∧ ∀ xs, SqL K H a xs → xs[i]? = some x, fun i H => ∃ xs, SqL K H a xs ∧ xs.length ≤ i⟩
def Itt (K : PySem.W.Frag) (a : Addr) : It :=
  ⟨fun i H => ∃ xs x, SqT K H a xs ∧ xs[i]? = some x, fun i H x H' => H' = H ∧ ∀ xs, SqT K H a xs → xs[i]? = some x, fun i H => ∃ xs, SqT K H a xs ∧ xs.length ≤ i⟩
/-- lo, lo + 1, .. (n of them) -/
def Itr (lo : Int) (n : Nat) : It := ⟨fun i _ => i < n, fun i H x H' => H' = H ∧ x = .int (lo + i), fun i _ => n ≤ i⟩
theorem turn_list {P : Program} {w : World} {K : PySem.W.Frag} {tg : Expr} (a it : Addr) : Turn P w K tg (Itl K a) [it] it (fun i h => h.IsListIter it a i) where
  mem := by simp
  obj := fun i h st b hb => by
    have e : b = it := by simpa using hb
    subst e
    obtain ⟨o, e, c, d⟩ := st
    exact ⟨o, e, fun v z => by rw [d] at z; cases z⟩
  keep := fun i h h' st k => st.at fun o e => k it (by simp) o e
  item := by
    intro X hP hw hK hc i pins s σ H E I hf st hg
    subst hP hw hK
    obtain ⟨xs, x, hq, hx⟩ := hg
    obtain ⟨its, rv, p, hz⟩ := I.list hq
    obtain ⟨u, hu, ru⟩ := rv.get hx
    obtain ⟨f0, f1, f2, f3, f4, f5⟩ := hf it (by simp)
    refine wpAny_pyNext_list_item st p.isList (x := u) (by simpa using hu) fun h' st' sb => ?_
    have I1 : Inv X pins σ H { s with heap := h' } := I.turned (t' := s.toks) (fun b o hb e => (sb.2 b hb).trans e) f0 f1 f3 f4 f5
    obtain ⟨o, e, c, d⟩ := id st'
    exact ⟨u, rfl, go_of (s := { s with heap := h' }) e c d (by decide) ⟨x, H, I1, ru, ⟨rfl, fun ys hy => by rw [I.list_inj hy hq]; exact hx⟩, st', fun b hb => (hf b hb).1⟩⟩
  done := by
    intro X hP hw hK hc i pins s σ H E I hf st hg
    subst hP hw hK
    obtain ⟨xs, hq, hx⟩ := hg
    obtain ⟨its, rv, p, hz⟩ := I.list hq
    obtain ⟨f0, f1, f2, f3, f4, f5⟩ := hf it (by simp)
    have hl := rv.length
    exact wpAny_pyNext_list_end (I.ok.hd hc) st p.isList (by simp; omega) fun h' eb => ⟨rfl, I.turned (t' := s.toks) (fun b o hb e => eb b o hb e) f0 f1 f3 f4 f5⟩
  self := fun _ _ _ _ _ st h => wpAny_pyIter_listiter st h
theorem turn_tuple {P : Program} {w : World} {K : PySem.W.Frag} {tg : Expr} (a it : Addr) : Turn P w K tg (Itt K a) [it] it (fun i h => h.IsTupleIter it a i) where
  mem := by simp
  obj := fun i h st b hb => by
    have e : b = it := by simpa using hb
    subst e
    obtain ⟨o, e, c, d⟩ := st
    exact ⟨o, e, fun v z => by rw [d] at z; cases z⟩
  keep := fun i h h' st k => st.at fun o e => k it (by simp) o e
  item := by
    intro X hP hw hK hc i pins s σ H E I hf st hg
    subst hP hw hK
    obtain ⟨xs, x, hq, hx⟩ := hg
    obtain ⟨its, rv, p, hz⟩ := I.tuple hq
    obtain ⟨u, hu, ru⟩ := rv.get hx
    obtain ⟨f0, f1, f2, f3, f4, f5⟩ := hf it (by simp)
    refine wpAny_pyNext_tuple_item st (show s.heap.IsTuple a its.toArray from p) (x := u) (by simpa using hu) fun h' st' sb => ?_
    have I1 : Inv X pins σ H { s with heap := h' } := I.turned (t' := s.toks) (fun b o hb e => (sb.2 b hb).trans e) f0 f1 f3 f4 f5
    obtain ⟨o, e, c, d⟩ := id st'
    exact ⟨u, rfl, go_of (s := { s with heap := h' }) e c d (by decide) ⟨x, H, I1, ru, ⟨rfl, fun ys hy => by rw [I.tuple_inj hy hq]; exact hx⟩, st', fun b hb => (hf b hb).1⟩⟩
  done := by
    intro X hP hw hK hc i pins s σ H E I hf st hg
    subst hP hw hK
    obtain ⟨xs, hq, hx⟩ := hg
    obtain ⟨its, rv, p, hz⟩ := I.tuple hq
    obtain ⟨f0, f1, f2, f3, f4, f5⟩ := hf it (by simp)
    have hl := rv.length
    exact wpAny_pyNext_tuple_end (I.ok.hd hc) st (show s.heap.IsTuple a its.toArray from p) (by simp; omega) fun h' eb => ⟨rfl, I.turned (t' := s.toks) (fun b o hb e => eb b o hb e) f0 f1 f3 f4 f5⟩
  self := fun _ _ _ _ _ st h => wpAny_pyIter_tupleiter st h
theorem turn_range {P : Program} {w : World} {K : PySem.W.Frag} {tg : Expr} (it : Addr) (lo : Int) (n : Nat) : Turn P w K tg (Itr lo n) [it] it (fun i h => IsRangeIter h it (lo + (i : Nat) * 1) ((n : Int) - (i : Nat)) 1) where
  mem := by simp
  obj := fun i h st b hb => by
    have e : b = it := by simpa using hb
    subst e
    exact ⟨_, st, fun v z => by
      have z' : Data.fields _ = Data.cell v := z
      cases z'⟩
  keep := fun i h h' st k => k it (by simp) _ st
  item := by
    intro X hP hw hK hc i pins s σ H E I hf st hg
    subst hP hw hK
    obtain ⟨f0, f1, f2, f3, f4, f5⟩ := hf it (by simp)
    have W := Walks.range (prog := X.prog) (w := X.w) (I.ok.hd hc) it lo 1 n
    refine W.item i s _ _ hg st fun v h' tk hv st' kk => ?_
    obtain ⟨t, rfl⟩ := hv
    have I1 : Inv X pins σ H { s with heap := h', toks := tk } := I.turned (fun b o hb e => kk b o (by simpa using hb) e) f0 f1 f3 f4 f5
    refine ⟨_, rfl, go_of (s := { s with heap := h', toks := tk }) (n := "range_iterator") st' rfl rfl (by decide) ⟨.int (lo + i), H, I1, ⟨t, ?_⟩, ⟨rfl, rfl⟩, st', fun b hb => (hf b hb).1⟩⟩
    rw [Int.mul_one]
  done := by
    intro X hP hw hK hc i pins s σ H E I hf st hg
    subst hP hw hK
    obtain ⟨f0, f1, f2, f3, f4, f5⟩ := hf it (by simp)
    exact wpAny_pyNext_range_end (I.ok.hd hc) st (by have : n ≤ i := hg; omega) fun h' eb => ⟨rfl, I.turned (t' := s.toks) (fun b o hb e => eb b o hb e) f0 f1 f3 f4 f5⟩
  self := fun _ _ _ _ _ st h => wpAny_pyIter_rangeiter st h
end L2

namespace L2
open PySem PySem.Spec PyProof.Rows
section
variable {X : Cx} {tg : Expr}
def iList (K : PySem.W.Frag) (tl : TE) : TI := fun σ H R => tl σ H fun x H1 => ∃ a, x = .ref a ∧ (∃ xs, SqL K H1 a xs) ∧ R (Itl K a) H1
def iTup (K : PySem.W.Frag) (tl : TE) : TI := fun σ H R => tl σ H fun x H1 => ∃ a, x = .ref a ∧ (∃ xs, SqT K H1 a xs) ∧ R (Itt K a) H1
theorem pi_list {l : Expr} {tl : TE} (hl : PE X l tl) : PI X tg l (iList X.K tl) := by
  intro pins s σ H R I h
  refine thn (hl pins s σ H _ I h) fun v s1 ⟨x, H1, I1, r1, q1⟩ => ?_
  obtain ⟨a, e, ⟨xs, hq⟩, q⟩ := q1
  subst e
  cases r1
  obtain ⟨its, rv, p, hz⟩ := I1.list hq
  refine wpAny_pyIter_list p.isList ?_
  refine ⟨s1.heap.objs.size, [s1.heap.objs.size], _, _, H1, rfl, I1.kept (t' := s1.toks) fun b o e => Heap.get?_push_of_some _ e, turn_list a _, ⟨_, Heap.get?_push_size _ rfl, rfl, rfl⟩, fun b hb => ?_, q⟩
  have e : b = s1.heap.objs.size := by simpa using hb
  subst e
  exact I1.fpOk (Nat.le_refl _) (I1.hok.fresh (Nat.le_refl _))
theorem pi_tup {l : Expr} {tl : TE} (hl : PE X l tl) : PI X tg l (iTup X.K tl) := by
  intro pins s σ H R I h
  refine thn (hl pins s σ H _ I h) fun v s1 ⟨x, H1, I1, r1, q1⟩ => ?_
  obtain ⟨a, e, ⟨xs, hq⟩, q⟩ := q1
  subst e
  cases r1
  obtain ⟨its, rv, p, hz⟩ := I1.tuple hq
  refine wpAny_pyIter_tuple (show s1.heap.IsTuple a its.toArray from p) ?_
  refine ⟨s1.heap.objs.size, [s1.heap.objs.size], _, _, H1, rfl, I1.kept (t' := s1.toks) fun b o e => Heap.get?_push_of_some _ e, turn_tuple a _, ⟨_, Heap.get?_push_size _ rfl, rfl, rfl⟩, fun b hb => ?_, q⟩
  have e : b = s1.heap.objs.size := by simpa using hb
  subst e
  exact I1.fpOk (Nat.le_refl _) (I1.hok.fresh (Nat.le_refl _))
/-- a range object just made, walked -/
theorem range_it {pins : List (Addr × Obj)} {σ : St} {H : Hp} {s : Shared} {R : It → Hp → Prop} {E : Value → Shared → Prop} {lo hi : Int} {t u v : Tok} {tk : Nat} (I : Inv X pins σ H s) (h1 : -(2 ^ 62) ≤ lo) (h2 : lo < 2 ^ 62) (h3 : -(2 ^ 62) ≤ hi) (h4 : hi < 2 ^ 62)
    (q : R (Itr lo (hi - lo).toNat) H) : wpAny (model X.prog X.w) X.A (pyIter (.ref s.heap.objs.size)) (PIE X pins σ tg R) E { s with heap := s.heap.push { cls := .type "range", data := .fields #[.int lo t, .int hi u, .int 1 v] }, toks := tk } := by
  refine wpAny_pyIter_range (IsRange.new ..) (small_one h1 h2 h3 h4) ?_
  have I1 : Inv X pins σ H { s with heap := s.heap.push { cls := .type "range", data := .fields #[.int lo t, .int hi u, .int 1 v] }, toks := tk } := I.kept fun b o e => Heap.get?_push_of_some _ e
  refine ⟨(s.heap.push { cls := .type "range", data := .fields #[.int lo t, .int hi u, .int 1 v] }).objs.size, [(s.heap.push { cls := .type "range", data := .fields #[.int lo t, .int hi u, .int 1 v] }).objs.size], _, _, H, rfl,
    I1.kept (t' := tk) fun b o e => Heap.get?_push_of_some _ e, turn_range _ lo (hi - lo).toNat, ?_, fun b hb => ?_, q⟩
  · have e1 : lo + ((0 : Nat) : Int) * 1 = lo := by simp
    have e2 : (((hi - lo).toNat : Nat) : Int) - ((0 : Nat) : Int) = Builtin.Range.rangeSize lo hi 1 := by rw [rangeSize_one]; split <;> omega
    show IsRangeIter _ _ (lo + ((0 : Nat) : Int) * 1) ((((hi - lo).toNat : Nat) : Int) - ((0 : Nat) : Int)) 1
    rw [e1, e2]
    exact Heap.get?_push_size _ rfl
  · have e : b = (s.heap.push { cls := .type "range", data := .fields #[.int lo t, .int hi u, .int 1 v] }).objs.size := by simpa using hb
    subst e
    exact I1.fpOk (Nat.le_refl _) (I1.hok.fresh (Nat.le_refl _))
def iRng1 (ta : TA) : TI := fun σ H R => ta σ H fun vs H1 => ∃ j : Int, vs = [.int j] ∧ -(2 ^ 62) ≤ j ∧ j < 2 ^ 62 ∧ R (Itr 0 j.toNat) H1
def iRng2 (ta : TA) : TI := fun σ H R => ta σ H fun vs H1 => ∃ i j : Int, vs = [.int i, .int j] ∧ (-(2 ^ 62) ≤ i ∧ i < 2 ^ 62 ∧ -(2 ^ 62) ≤ j ∧ j < 2 ^ 62) ∧ R (Itr i (j - i).toNat) H1
theorem pi_range1 {a : Expr} {ta : TA} {p pos : Pos} (hg : Gl X "range") (hm : X.mg "range" = none) (ha : PA X [a] ta) (hs : starEach [a] X.env = [(false, eval a X.env)] := by rfl) : PI X tg (.Call (.Name "range" p) [a] [] pos) (iRng1 ta) := by
  intro pins s σ H R I h
  refine Call_ (ld_blt I hg hm boot_range (PyProof.Rows.callWith_type1 (thn (ha pos pins s σ H _ I h) fun us s1 ⟨vs, H1, I1, r1, q1⟩ => ?_) hs rfl))
  obtain ⟨j, e, q1, q2, q⟩ := q1
  subst e
  cases r1 with
  | cons r rr =>
    cases rr
    obtain ⟨t, rfl⟩ := r
    exact call_range_1 (range_it I1 (by omega) (by omega) q1 q2 (by simpa using q))
/-! ### for -/
/-- W: the invariant by the turn and a measure; N: what the body is to reach -/
def tFor (wi : TI) (g : TG) (tb : TS) : TS := fun D σ H => wi σ H fun J H1 => ∃ W : Nat → Nat → St → Hp → Prop, (∃ m, W 0 m σ H1) ∧ ∀ i m σ H, W i m σ H →
  (J.stop i H ∧ D.nx σ H) ∨ (J.go i H ∧ ∃ N : St → Hp → Prop, (∀ σ' H', N σ' H' → ∃ m', m' < m ∧ W (i + 1) m' σ' H') ∧ ∀ x H', J.yld i H x H' → g x σ H' fun σ2 H2 => tb { D with nx := N, ct := N, bk := D.nx } σ2 H2)
/-- the records at fp as they stand -/
def pinsAt (fp : List Addr) (h : Heap) : List (Addr × Obj) := fp.filterMap fun b => (h.get? b).map fun o => (b, o)
theorem mem_pinsAt {fp : List Addr} {h : Heap} {b : Addr} {o : Obj} (hb : b ∈ fp) (e : h.get? b = some o) : (b, o) ∈ pinsAt fp h := List.mem_filterMap.mpr ⟨b, hb, by rw [e]; rfl⟩
theorem of_pinsAt {fp : List Addr} {h : Heap} {p : Addr × Obj} (hp : p ∈ pinsAt fp h) : p.1 ∈ fp ∧ h.get? p.1 = some p.2 := by
  obtain ⟨b, hb, e⟩ := List.mem_filterMap.mp hp
  cases q : h.get? b with
  | none => rw [q] at e; cases e
  | some o =>
    rw [q] at e
    have e' : (b, o) = p := Option.some.inj e
    subst e'
    exact ⟨hb, q⟩
theorem Inv.pinned {pins : List (Addr × Obj)} {σ : St} {H : Hp} {s : Shared} {fp : List Addr} (I : Inv X pins σ H s) (hf : ∀ b ∈ fp, FpOk X pins H b) (ho : ∀ b ∈ fp, ∃ o, s.heap.get? b = some o ∧ ∀ v, o.data ≠ .cell v) : Inv X (pins ++ pinsAt fp s.heap) σ H s :=
  I.pins_of fun p hp => (List.mem_append.mp hp).elim (fun z => I.pin p (List.mem_append_right _ z)) fun z => by
    obtain ⟨hb, e⟩ := of_pinsAt z
    obtain ⟨f0, f1, f2, _⟩ := hf p.1 hb
    obtain ⟨o, e', d⟩ := ho p.1 hb
    rw [e] at e'; cases e'
    exact ⟨e, f0, f1, f2, d⟩
theorem Inv.unpinned {pins pl : List (Addr × Obj)} {σ : St} {H : Hp} {s : Shared} (I : Inv X (pins ++ pl) σ H s) : Inv X pins σ H s := I.pins_of fun p hp => I.pin p (List.mem_append_right _ (List.mem_append_left _ hp))
theorem ps_for {iter : Expr} {body : List Stmt} {wi : TI} {g : TG} {tb : TS} {pos : Pos} (hp : PassesOwn (model X.prog X.w) X.A X.env X.xe) (hc : X.calm = true) (hi : PI X tg iter wi) (hg : PG X tg g) (hb : PSs X body tb)
    (hs : ∀ x, foldedSetIterable iter X.env x = pure x := by intro _; rfl) : PS X (.For tg iter body [] pos) (tFor wi g tb) := by
  intro pins s σ H D I h
  refine wpAny_For (thn (hi pins s σ H _ I h) fun v s1 h1 => thn h1 fun itv s2 h2 => ?_) hs
  obtain ⟨it, fp, tn, J, H2, e, I2, T, st2, f2, W, ⟨m0, w0⟩, turn⟩ := h2
  subst e
  -- what stays true of the iterator's objects through the loop
  have stat : ∀ {H' : Hp}, (∀ b ∈ fp, H' b = none) → ∀ b ∈ fp, FpOk X pins H' b := fun hn b hb => ⟨hn b hb, (f2 b hb).2⟩
  refine codeAny_forLoop_any (fun n s' => ∃ i σ' H', Inv X pins σ' H' s' ∧ tn i s'.heap ∧ (∀ b ∈ fp, H' b = none) ∧ W i n σ' H') ?_ m0 ⟨0, σ, H2, I2, st2, fun b hb => (f2 b hb).1, w0⟩
  rintro n s3 ⟨i, σ3, H3, I3, st3, fr3, w3⟩
  rcases turn i n σ3 H3 w3 with ⟨stop, qn⟩ | ⟨go, N, hN, step⟩
  · refine wpAny_passesOwn hp (thn (T.done X rfl rfl rfl hc i pins s3 σ3 H3 X.xe I3 (stat fr3) st3 stop) fun r s4 ⟨hr, I4⟩ => ?_)
    subst hr
    exact wpAny_execs_nil ⟨σ3, H3, I4, qn⟩
  · refine wpAny_passesOwn hp (thn (T.item X rfl rfl rfl hc i pins s3 σ3 H3 X.xe I3 (stat fr3) st3 go) fun r s4 ⟨u, hr, h4⟩ => ?_)
    subst hr
    refine wpAny_passesOwn hp (thn h4 fun _ s5 ⟨x, H5, I5, r5, y5, st5, fr5⟩ => ?_)
    have I5' := I5.pinned (stat fr5) (T.obj _ _ st5)
    refine wpAny_passesOwn hp (thn (hg _ s5 σ3 H5 x u _ I5' r5 (step x H5 y5)) fun _ s6 ⟨σ6, H6, I6, q6⟩ => ?_)
    refine wpAny_passesOwn hp (thn (hb _ s6 σ6 H6 _ I6 q6) fun f s7 q7 => ?_)
    have again : ∀ {σ7 : St} {H7 : Hp}, Inv X (pins ++ pinsAt fp s5.heap) σ7 H7 s7 → N σ7 H7 → ∃ m, m < n ∧ ∃ i σ' H', Inv X pins σ' H' s7 ∧ tn i s7.heap ∧ (∀ b ∈ fp, H' b = none) ∧ W i m σ' H' := fun {σ7 H7} I7 n7 => by
      obtain ⟨m', hm, w7⟩ := hN σ7 H7 n7
      refine ⟨m', hm, i + 1, σ7, H7, I7.unpinned, T.keep _ _ _ st5 fun b hb o e => (I7.pin (b, o) (List.mem_append_right _ (List.mem_append_right _ (mem_pinsAt hb e)))).1, fun b hb => ?_, w7⟩
      obtain ⟨o, e, d⟩ := T.obj _ _ st5 b hb
      exact (I7.pin (b, o) (List.mem_append_right _ (List.mem_append_right _ (mem_pinsAt hb e)))).2.1
    cases f with
    | next => obtain ⟨σ7, H7, I7, n7⟩ := q7; exact again I7 n7
    | cont => obtain ⟨σ7, H7, I7, n7⟩ := q7; exact again I7 n7
    | brk => obtain ⟨σ7, H7, I7, q7⟩ := q7; exact ⟨σ7, H7, I7.unpinned, q7⟩
    | ret v => obtain ⟨x7, σ7, H7, I7, r7, q7⟩ := q7; exact ⟨x7, σ7, H7, I7.unpinned, r7, q7⟩
end

/-! ### the forms one uses -/
/-- over a list that the body leaves as it is -/
theorem for_list {K : PySem.W.Frag} {a : Addr} {xs : List V} {g : TG} {tb : TS} {D : Ends} {σ : St} {H : Hp} (Pv : Nat → St → Hp → Prop) (h0 : Pv 0 σ H) (hl : ∀ i σ H, i ≤ xs.length → Pv i σ H → SqL K H a xs)
    (hs : ∀ i x σ H, xs[i]? = some x → Pv i σ H → g x σ H fun σ2 H2 => tb { D with nx := Pv (i + 1), ct := Pv (i + 1), bk := D.nx } σ2 H2) (hd : ∀ σ H, Pv xs.length σ H → D.nx σ H) :
    ∃ W : Nat → Nat → St → Hp → Prop, (∃ m, W 0 m σ H) ∧ ∀ i m σ H, W i m σ H →
      ((Itl K a).stop i H ∧ D.nx σ H) ∨ ((Itl K a).go i H ∧ ∃ N : St → Hp → Prop, (∀ σ' H', N σ' H' → ∃ m', m' < m ∧ W (i + 1) m' σ' H') ∧ ∀ x H', (Itl K a).yld i H x H' → g x σ H' fun σ2 H2 => tb { D with nx := N, ct := N, bk := D.nx } σ2 H2) := by
  refine ⟨fun i m σ H => m = xs.length - i ∧ i ≤ xs.length ∧ Pv i σ H, ⟨xs.length, by simp, Nat.zero_le _, h0⟩, ?_⟩
  rintro i m σ H ⟨rfl, hi, p⟩
  have q := hl i σ H hi p
  by_cases hlt : i < xs.length
  · refine .inr ⟨⟨xs, xs[i], q, by simp [hlt]⟩, Pv (i + 1), fun σ' H' p' => ⟨xs.length - (i + 1), by omega, rfl, hlt, p'⟩, fun x H' y => ?_⟩
    obtain ⟨e, y⟩ := y
    subst e
    exact hs i x σ _ (y xs q) p
  · have e : i = xs.length := by omega
    subst e
    exact .inl ⟨⟨xs, q, Nat.le_refl _⟩, hd σ H p⟩
theorem for_tup {K : PySem.W.Frag} {a : Addr} {xs : List V} {g : TG} {tb : TS} {D : Ends} {σ : St} {H : Hp} (Pv : Nat → St → Hp → Prop) (h0 : Pv 0 σ H) (hl : ∀ i σ H, i ≤ xs.length → Pv i σ H → SqT K H a xs)
    (hs : ∀ i x σ H, xs[i]? = some x → Pv i σ H → g x σ H fun σ2 H2 => tb { D with nx := Pv (i + 1), ct := Pv (i + 1), bk := D.nx } σ2 H2) (hd : ∀ σ H, Pv xs.length σ H → D.nx σ H) :
    ∃ W : Nat → Nat → St → Hp → Prop, (∃ m, W 0 m σ H) ∧ ∀ i m σ H, W i m σ H →
      ((Itt K a).stop i H ∧ D.nx σ H) ∨ ((Itt K a).go i H ∧ ∃ N : St → Hp → Prop, (∀ σ' H', N σ' H' → ∃ m', m' < m ∧ W (i + 1) m' σ' H') ∧ ∀ x H', (Itt K a).yld i H x H' → g x σ H' fun σ2 H2 => tb { D with nx := N, ct := N, bk := D.nx } σ2 H2) := by
  refine ⟨fun i m σ H => m = xs.length - i ∧ i ≤ xs.length ∧ Pv i σ H, ⟨xs.length, by simp, Nat.zero_le _, h0⟩, ?_⟩
  rintro i m σ H ⟨rfl, hi, p⟩
  have q := hl i σ H hi p
  by_cases hlt : i < xs.length
  · refine .inr ⟨⟨xs, xs[i], q, by simp [hlt]⟩, Pv (i + 1), fun σ' H' p' => ⟨xs.length - (i + 1), by omega, rfl, hlt, p'⟩, fun x H' y => ?_⟩
    obtain ⟨e, y⟩ := y
    subst e
    exact hs i x σ _ (y xs q) p
  · have e : i = xs.length := by omega
    subst e
    exact .inl ⟨⟨xs, q, Nat.le_refl _⟩, hd σ H p⟩
theorem for_range {lo : Int} {n : Nat} {g : TG} {tb : TS} {D : Ends} {σ : St} {H : Hp} (Pv : Nat → St → Hp → Prop) (h0 : Pv 0 σ H)
    (hs : ∀ i σ H, i < n → Pv i σ H → g (.int (lo + i)) σ H fun σ2 H2 => tb { D with nx := Pv (i + 1), ct := Pv (i + 1), bk := D.nx } σ2 H2) (hd : ∀ σ H, Pv n σ H → D.nx σ H) :
    ∃ W : Nat → Nat → St → Hp → Prop, (∃ m, W 0 m σ H) ∧ ∀ i m σ H, W i m σ H →
      ((Itr lo n).stop i H ∧ D.nx σ H) ∨ ((Itr lo n).go i H ∧ ∃ N : St → Hp → Prop, (∀ σ' H', N σ' H' → ∃ m', m' < m ∧ W (i + 1) m' σ' H') ∧ ∀ x H', (Itr lo n).yld i H x H' → g x σ H' fun σ2 H2 => tb { D with nx := N, ct := N, bk := D.nx } σ2 H2) := by
  refine ⟨fun i m σ H => m = n - i ∧ i ≤ n ∧ Pv i σ H, ⟨n, by simp, Nat.zero_le _, h0⟩, ?_⟩
  rintro i m σ H ⟨rfl, hi, p⟩
  by_cases hlt : i < n
  · refine .inr ⟨hlt, Pv (i + 1), fun σ' H' p' => ⟨n - (i + 1), by omega, rfl, hlt, p'⟩, fun x H' y => ?_⟩
    obtain ⟨e, y⟩ := y
    subst e y
    exact hs i σ _ hlt p
  · have e : i = n := by omega
    subst e
    exact .inl ⟨Nat.le_refl _, hd σ H p⟩
/-- while, by a word and a measure of the state -/
theorem while_by {c : TT} {tb : TS} {D : Ends} {σ : St} {H : Hp} (Pv : St → Hp → Prop) (μ : St → Hp → Nat) (h0 : Pv σ H)
    (hs : ∀ σ H, Pv σ H → c σ H fun b H1 => if b = true then tb { D with nx := fun σ' H' => Pv σ' H' ∧ μ σ' H' < μ σ H, ct := fun σ' H' => Pv σ' H' ∧ μ σ' H' < μ σ H, bk := D.nx } σ H1 else D.nx σ H1)
    (mono : ∀ σ H Q Q', (∀ b H1, Q b H1 → Q' b H1) → c σ H Q → c σ H Q') : tWhile c tb D σ H := by
  refine ⟨fun m σ H => m = μ σ H ∧ Pv σ H, ⟨_, rfl, h0⟩, ?_⟩
  rintro m σ H ⟨rfl, p⟩
  refine mono σ H _ _ (fun b H1 q => ?_) (hs σ H p)
  cases b with
  | true => exact ⟨_, fun σ' H' ⟨p', l⟩ => ⟨_, l, rfl, p'⟩, q⟩
  | false => exact q
end L2

namespace L2
open PySem PySem.Spec PyProof.Rows

abbrev R2 := V → V → Hp → VK → Prop
/-- a two-place operation on values: f is binaryOp op, inplaceOp op or compareOp op -/
def OpR (X : Cx) (f : Value → Value → Sem Value) (r : R2) : Prop :=
  ∀ (pins : List (Addr × Obj)) (s : Shared) (σ : St) (H : Hp) (x y : V) (v u : Value) (Q : VK), Inv X pins σ H s → RelV x v → RelV y u → r x y H Q →
    wpAny (model X.prog X.w) X.A (f v u) (EP X pins σ Q) X.xe s
/-- a one-place operation -/
def UnR (X : Cx) (f : Value → Sem Value) (r : V → Hp → VK → Prop) : Prop :=
  ∀ (pins : List (Addr × Obj)) (s : Shared) (σ : St) (H : Hp) (x : V) (v : Value) (Q : VK), Inv X pins σ H s → RelV x v → r x H Q →
    wpAny (model X.prog X.w) X.A (f v) (EP X pins σ Q) X.xe s
/-- a call of a value that is known (a builtin, a type) with values -/
def CallR (X : Cx) (f : Value) (r : List V → Hp → VK → Prop) : Prop :=
  ∀ (pins : List (Addr × Obj)) (s : Shared) (σ : St) (H : Hp) (xs : List V) (us : List Value) (Q : VK), Inv X pins σ H s → Vals xs us → r xs H Q →
    wpAny (model X.prog X.w) X.A (call f us) (EP X pins σ Q) X.xe s
/-- a value's truth -/
def TruR (X : Cx) (r : V → Hp → (Bool → Hp → Prop) → Prop) : Prop :=
  ∀ (pins : List (Addr × Obj)) (s : Shared) (σ : St) (H : Hp) (x : V) (v : Value) (Q : Bool → Hp → Prop), Inv X pins σ H s → RelV x v → r x H Q →
    wpAny (model X.prog X.w) X.A (truthy v) (TP X pins σ Q) X.xe s

def tOp (r : R2) (ta tb : TE) : TE := fun σ H Q => ta σ H fun x H1 => tb σ H1 fun y H2 => r x y H2 Q
def tUn (r : V → Hp → VK → Prop) (ta : TE) : TE := fun σ H Q => ta σ H fun x H1 => r x H1 Q
/-- ints in, under C, and a value out -/
def rI (C : Int → Int → Prop) (g : Int → Int → V) : R2 := fun x y H Q => ∃ i j, x = .int i ∧ y = .int j ∧ C i j ∧ Q (g i j) H
def rI0 (g : Int → Int → V) : R2 := fun x y H Q => ∃ i j, x = .int i ∧ y = .int j ∧ Q (g i j) H
def rU (g : Int → V) : V → Hp → VK → Prop := fun x H Q => ∃ i, x = .int i ∧ Q (g i) H

section
variable {X : Cx} {a b c : Expr} {ta tb tc : TE} {pos : Pos}

theorem binT (ha : PE X a ta) (hb : PE X b tb) {pins : List (Addr × Obj)} {s : Shared} {σ : St} {H : Hp} {R : V → V → Hp → Prop} (I : Inv X pins σ H s)
    (h : ta σ H fun x H1 => tb σ H1 fun y H2 => R x y H2) {Q : Value → Shared → Prop} {f : Value → Value → Sem Value}
    (hf : ∀ v u s2 x y H2, Inv X pins σ H2 s2 → RelV x v → RelV y u → R x y H2 → wpAny (model X.prog X.w) X.A (f v u) Q X.xe s2) :
    wpAny (model X.prog X.w) X.A (eval a X.env) (fun v s₁ => wpAny (model X.prog X.w) X.A (eval b X.env) (fun u s₂ => wpAny (model X.prog X.w) X.A (f v u) Q X.xe s₂) X.xe s₁) X.xe s := by
  refine thn (ha pins s σ H _ I h) fun v s1 ⟨x, H1, I1, r1, q1⟩ => ?_
  refine thn (hb pins s1 σ H1 _ I1 q1) fun u s2 ⟨y, H2, I2, r2, q2⟩ => ?_
  exact hf v u s2 x y H2 I2 r1 r2 q2

theorem pe_op {op : Operator} {r : R2} (ho : OpR X (binaryOp op) r) (ha : PE X a ta) (hb : PE X b tb) : PE X (.BinOp a op b pos) (tOp r ta tb) := by
  intro pins s σ H Q I h
  exact wpAny_BinOp (binT ha hb I h fun v u s2 x y H2 I2 rx ry q => ho pins s2 σ H2 x y v u Q I2 rx ry q)
theorem pe_un {op : UnaryOp} {r : V → Hp → VK → Prop} (ho : UnR X (unaryOp op) r) (ha : PE X a ta) : PE X (.UnaryOp op a pos) (tUn r ta) := by
  intro pins s σ H Q I h
  exact UnaryOp_ (thn (ha pins s σ H _ I h) fun v s1 ⟨x, H1, I1, r1, q1⟩ => ho pins s1 σ H1 x v Q I1 r1 q1)
/-! ### ints -/
theorem opI {f : Value → Value → Sem Value} {C : Int → Int → Prop} {g : Int → Int → Int}
    (rule : ∀ (i j : Int) (t u : Tok) (s : Shared) (Q : Value → Shared → Prop) (E : Value → Shared → Prop), C i j → Q (.int (g i j) s.toks) { s with toks := s.toks + 1 } → wpAny (model X.prog X.w) X.A (f (.int i t) (.int j u)) Q E s) :
    OpR X f (rI C fun i j => .int (g i j)) := by
  intro pins s σ H x y v u Q I rx ry h
  obtain ⟨i, j, rfl, rfl, hc, q⟩ := h
  obtain ⟨t, rfl⟩ := rx
  obtain ⟨t', rfl⟩ := ry
  exact rule i j t t' s _ _ hc ⟨.int (g i j), H, I.tok _, ⟨_, rfl⟩, q⟩
theorem opI0 {f : Value → Value → Sem Value} {g : Int → Int → Int}
    (rule : ∀ (i j : Int) (t u : Tok) (s : Shared) (Q : Value → Shared → Prop) (E : Value → Shared → Prop), Q (.int (g i j) s.toks) { s with toks := s.toks + 1 } → wpAny (model X.prog X.w) X.A (f (.int i t) (.int j u)) Q E s) :
    OpR X f (rI0 fun i j => .int (g i j)) := by
  intro pins s σ H x y v u Q I rx ry h
  obtain ⟨i, j, rfl, rfl, q⟩ := h
  obtain ⟨t, rfl⟩ := rx
  obtain ⟨t', rfl⟩ := ry
  exact rule i j t t' s _ _ ⟨.int (g i j), H, I.tok _, ⟨_, rfl⟩, q⟩
theorem opB0 {f : Value → Value → Sem Value} {g : Int → Int → Bool}
    (rule : ∀ (i j : Int) (t u : Tok) (s : Shared) (Q : Value → Shared → Prop) (E : Value → Shared → Prop), Q (.bool (g i j)) s → wpAny (model X.prog X.w) X.A (f (.int i t) (.int j u)) Q E s) :
    OpR X f (rI0 fun i j => .bl (g i j)) := by
  intro pins s σ H x y v u Q I rx ry h
  obtain ⟨i, j, rfl, rfl, q⟩ := h
  obtain ⟨t, rfl⟩ := rx
  obtain ⟨t', rfl⟩ := ry
  exact rule i j t t' s _ _ ⟨.bl (g i j), H, I, rfl, q⟩

def CDiv (i j : Int) : Prop := 0 < j ∧ j < 1073741824
def CDivN (i j : Int) : Prop := j ≠ 0 ∧ j.natAbs < 1073741824
def CPow (i j : Int) : Prop := 0 ≤ j ∧ j ≤ 1000000 ∧ i.natAbs < 2 ^ 64
def CMul (i j : Int) : Prop := (-(2 ^ 64) < i ∧ i < 2 ^ 64) ∨ (-(2 ^ 64) < j ∧ j < 2 ^ 64)
theorem CMul.ok {i j : Int} (h : CMul i j) : IntMulOk i j := by
  rcases h with ⟨h1, h2⟩ | ⟨h1, h2⟩
  · exact .of_left (intBits_le_64 h1 h2)
  · exact .of_right (intBits_le_64 h1 h2)
theorem op_add : OpR X (binaryOp .Add) (rI0 fun i j => .int (i + j)) := opI0 fun _ _ _ _ _ _ _ q => add_int q
theorem op_sub : OpR X (binaryOp .Sub) (rI0 fun i j => .int (i - j)) := opI0 fun _ _ _ _ _ _ _ q => sub_int q
theorem op_mul : OpR X (binaryOp .Mult) (rI CMul fun i j => .int (i * j)) := opI fun _ _ _ _ _ _ _ hc q => mul_int q hc.ok
/-- // by a positive divisor -/
theorem op_fdiv : OpR X (binaryOp .FloorDiv) (rI CDiv fun i j => .int (i / j)) := opI fun i j _ _ _ _ _ hc q => by
  have h1 : (0 : Int) < j := hc.1
  have h2 : j < 1073741824 := hc.2
  exact floordiv_int (by omega) (by rw [Int.fdiv_eq_ediv_of_nonneg i (by omega)]; exact q) (.inl (PyProof.noPylong_small (by omega)))
/-- % by a positive divisor of any size -/
theorem op_mod : OpR X (binaryOp .Mod) (rI (fun _ j => 0 < j) fun i j => .int (i % j)) := opI fun i j _ _ _ _ _ hc q => by
  have h1 : (0 : Int) < j := hc
  exact mod_int' (by omega) (by rw [Int.fmod_eq_emod_of_nonneg i (by omega)]; exact q)
theorem op_modN : OpR X (binaryOp .Mod) (rI (fun _ j => j ≠ 0) fun i j => .int (i.fmod j)) := opI fun _ _ _ _ _ _ _ hc q => mod_int' hc q
theorem op_pow : OpR X (binaryOp .Pow) (rI CPow fun i j => .int (i ^ j.toNat)) := opI fun _ _ _ _ _ _ _ hc q => pow_int_small hc.1 hc.2.1 hc.2.2 q
theorem unI {f : Value → Sem Value} {g : Int → Int}
    (rule : ∀ (i : Int) (t : Tok) (s : Shared) (Q : Value → Shared → Prop) (E : Value → Shared → Prop), Q (.int (g i) s.toks) { s with toks := s.toks + 1 } → wpAny (model X.prog X.w) X.A (f (.int i t)) Q E s) :
    UnR X f (rU fun i => .int (g i)) := by
  intro pins s σ H x v Q I rx h
  obtain ⟨i, rfl, q⟩ := h
  obtain ⟨t, rfl⟩ := rx
  exact rule i t s _ _ ⟨.int (g i), H, I.tok _, ⟨_, rfl⟩, q⟩
theorem un_neg : UnR X (unaryOp .USub) (rU fun i => .int (-i)) := unI fun _ _ _ _ _ q => neg_int q
/-! ### bools among ints: n += (a < b) -/
end

/-! ### comparisons -/
/-- the scalars that == tells apart as data does -/
def scal : V → V → Bool
  | .non, .non => true | .non, .int _ => true | .int _, .non => true | .non, .bl _ => true | .bl _, .non => true | .non, .str _ => true | .str _, .non => true
  | .int _, .int _ => true | .bl _, .bl _ => true | .str _, .str _ => true | .byt _, .byt _ => true
  | .int _, .str _ => true | .str _, .int _ => true | .bl _, .str _ => true | .str _, .bl _ => true
  | _, _ => false
def rEq : R2 := fun x y H Q => scal x y = true ∧ Q (.bl (decide (x = y))) H
def rNe : R2 := fun x y H Q => scal x y = true ∧ Q (.bl (!decide (x = y))) H

theorem dec_int {i j : Int} : decide (V.int i = V.int j) = (i == j) := by
  rw [Bool.eq_iff_iff]
  simp
theorem dec_bl {i j : Bool} : decide (V.bl i = V.bl j) = (i == j) := by
  rw [Bool.eq_iff_iff]
  simp
theorem dec_str {i j : Str} : decide (V.str i = V.str j) = (i == j) := by
  rw [Bool.eq_iff_iff]
  simp
theorem dec_byt {i j : Array UInt8} : decide (V.byt i = V.byt j) = (i.toList == j.toList) := by
  rw [Bool.eq_iff_iff]
  cases i
  cases j
  simp

section
variable {X : Cx} {a b c : Expr} {ta tb tc : TE} {pos : Pos}
theorem fin_bl {pins : List (Addr × Obj)} {σ : St} {H : Hp} {s : Shared} {Q : VK} {k k' : Bool} (I : Inv X pins σ H s) (q : Q (.bl k) H) (e : k = k') : EP X pins σ Q (.bool k') s := by
  subst e
  exact ⟨.bl k, H, I, rfl, q⟩
theorem op_eq : OpR X (compareOp .Eq) rEq := by
  intro pins s σ H x y v u Q I rx ry h
  obtain ⟨hs, q⟩ := h
  cases x with
  | non =>
    cases rx
    cases y with
    | non => cases ry; exact PySem.EqNone.eq_none_none (fin_bl I q (by simp))
    | bl j => cases ry; exact PySem.EqNone.eq_none_bool (fin_bl I q (by simp))
    | int j => obtain ⟨t', rfl⟩ := ry; exact PySem.EqNone.eq_none_int (fin_bl I q (by simp))
    | str j => obtain ⟨t', rfl⟩ := ry; exact PySem.EqNone.eq_none_str (fin_bl I q (by simp))
    | _ => exact absurd (show false = true from hs) Bool.false_ne_true
  | bl i =>
    cases rx
    cases y with
    | non => cases ry; exact PySem.EqNone.eq_bool_none (fin_bl I q (by simp))
    | bl j => cases ry; exact eq_bool (fin_bl I q dec_bl)
    | str j => obtain ⟨t', rfl⟩ := ry; exact PySem.EqMixed.eq_bool_str (fin_bl I q (by simp))
    | _ => exact absurd (show false = true from hs) Bool.false_ne_true
  | int i =>
    obtain ⟨t, rfl⟩ := rx
    cases y with
    | non => cases ry; exact PySem.EqNone.eq_int_none (fin_bl I q (by simp))
    | int j => obtain ⟨t', rfl⟩ := ry; exact eq_int (fin_bl I q dec_int)
    | str j => obtain ⟨t', rfl⟩ := ry; exact PySem.EqMixed.eq_int_str (fin_bl I q (by simp))
    | _ => exact absurd (show false = true from hs) Bool.false_ne_true
  | str i =>
    obtain ⟨t, rfl⟩ := rx
    cases y with
    | non => cases ry; exact PySem.EqNone.eq_str_none (fin_bl I q (by simp))
    | bl j => cases ry; exact PySem.EqMixed.eq_str_bool (fin_bl I q (by simp))
    | int j => obtain ⟨t', rfl⟩ := ry; exact PySem.EqMixed.eq_str_int (fin_bl I q (by simp))
    | str j => obtain ⟨t', rfl⟩ := ry; exact eq_str (fin_bl I q dec_str)
    | _ => exact absurd (show false = true from hs) Bool.false_ne_true
  | byt i =>
    obtain ⟨t, rfl⟩ := rx
    cases y with
    | byt j => obtain ⟨t', rfl⟩ := ry; exact PySem.W.eq_bytes (fin_bl I q dec_byt)
    | _ => exact absurd (show false = true from hs) Bool.false_ne_true
  | _ => cases y <;> exact absurd (show false = true from hs) Bool.false_ne_true
theorem op_ne : OpR X (compareOp .NotEq) rNe := by
  intro pins s σ H x y v u Q I rx ry h
  obtain ⟨hs, q⟩ := h
  cases x with
  | non =>
    cases rx
    cases y with
    | non => cases ry; exact PySem.EqNone.ne_none_none (fin_bl I q (by simp))
    | bl j => cases ry; exact PySem.EqNone.ne_none_bool (fin_bl I q (by simp))
    | int j => obtain ⟨t', rfl⟩ := ry; exact PySem.EqNone.ne_none_int (fin_bl I q (by simp))
    | str j => obtain ⟨t', rfl⟩ := ry; exact PySem.EqNone.ne_none_str (fin_bl I q (by simp))
    | _ => exact absurd (show false = true from hs) Bool.false_ne_true
  | bl i =>
    cases rx
    cases y with
    | non => cases ry; exact PySem.EqNone.ne_bool_none (fin_bl I q (by simp))
    | bl j => cases ry; exact ne_bool (fin_bl I q (congrArg not dec_bl))
    | str j => obtain ⟨t', rfl⟩ := ry; exact PySem.EqMixed.ne_bool_str (fin_bl I q (by simp))
    | _ => exact absurd (show false = true from hs) Bool.false_ne_true
  | int i =>
    obtain ⟨t, rfl⟩ := rx
    cases y with
    | non => cases ry; exact PySem.EqNone.ne_int_none (fin_bl I q (by simp))
    | int j => obtain ⟨t', rfl⟩ := ry; exact ne_int (fin_bl I q (congrArg not dec_int))
    | str j => obtain ⟨t', rfl⟩ := ry; exact PySem.EqMixed.ne_int_str (fin_bl I q (by simp))
    | _ => exact absurd (show false = true from hs) Bool.false_ne_true
  | str i =>
    obtain ⟨t, rfl⟩ := rx
    cases y with
    | non => cases ry; exact PySem.EqNone.ne_str_none (fin_bl I q (by simp))
    | bl j => cases ry; exact PySem.EqMixed.ne_str_bool (fin_bl I q (by simp))
    | int j => obtain ⟨t', rfl⟩ := ry; exact PySem.EqMixed.ne_str_int (fin_bl I q (by simp))
    | str j => obtain ⟨t', rfl⟩ := ry; exact ne_str (fin_bl I q (congrArg not dec_str))
    | _ => exact absurd (show false = true from hs) Bool.false_ne_true
  | byt i =>
    obtain ⟨t, rfl⟩ := rx
    cases y with
    | byt j => obtain ⟨t', rfl⟩ := ry; exact PySem.W.ne_bytes (fin_bl I q (congrArg not dec_byt))
    | _ => exact absurd (show false = true from hs) Bool.false_ne_true
  | _ => cases y <;> exact absurd (show false = true from hs) Bool.false_ne_true

theorem op_lt : OpR X (compareOp .Lt) (rI0 fun i j => .bl (decide (i < j))) := opB0 fun _ _ _ _ _ _ _ q => lt_int q
theorem op_gt : OpR X (compareOp .Gt) (rI0 fun i j => .bl (decide (j < i))) := opB0 fun _ _ _ _ _ _ _ q => gt_int q
theorem op_ge : OpR X (compareOp .GtE) (rI0 fun i j => .bl (decide (j ≤ i))) := opB0 fun _ _ _ _ _ _ _ q => ge_int q
/-- is None, is not None: the right side a value none -/
theorem op_isN : OpR X (compareOp .Is) (fun x y H Q => y = .non ∧ Q (.bl (decide (x = .non))) H) := by
  intro pins s σ H x y v u Q I rx ry h
  obtain ⟨rfl, q⟩ := h
  cases ry
  refine is_none_gen (fin_bl I q ?_)
  cases x <;> first
    | (cases rx; rfl)
    | (obtain ⟨t, rfl⟩ := rx; rfl)
theorem op_notN : OpR X (compareOp .IsNot) (fun x y H Q => y = .non ∧ Q (.bl (!decide (x = .non))) H) := by
  intro pins s σ H x y v u Q I rx ry h
  obtain ⟨rfl, q⟩ := h
  cases ry
  refine isnot_none_gen (fin_bl I q ?_)
  cases x <;> first
    | (cases rx; rfl)
    | (obtain ⟨t, rfl⟩ := rx; rfl)

/-- is, is not of two objects that are tracked lists or instances -/
def isObj : HO → Bool
  | .lst _ => true
  | .ins _ _ _ => true
  | _ => false
theorem nomark (b : Expr) {op : CmpOp} (h : op ≠ .In := by decide) (h2 : op ≠ .NotIn := by decide) : behindInMarks op b = false := by
  have e1 : (op == CmpOp.In) = false := by cases op <;> first | rfl | exact absurd rfl h
  have e2 : (op == CmpOp.NotIn) = false := by cases op <;> first | rfl | exact absurd rfl h2
  cases b <;> simp [behindInMarks, e1, e2]
/-- a comparison as a value; hm: nomark b, or (for in, not in) by with_unfolding_all rfl -/
theorem pe_cmpR {op : CmpOp} {r : R2} (ho : OpR X (compareOp op) r) (ha : PE X a ta) (hb : PE X b tb) (hm : behindInMarks op b = false) : PE X (.Compare a [op] [b] pos) (tOp r ta tb) := by
  intro pins s σ H Q I h
  exact wpAny_Compare1 (binT ha hb I h fun v u s2 x y H2 I2 rx ry q => ho pins s2 σ H2 x y v u Q I2 rx ry q) hm
/-- a reading of a value as a test -/
def tTest (t : TE) : TT := fun σ H Q => t σ H fun x H' => ∃ k, x = .bl k ∧ Q k H'
theorem pt_cmpR {op : CmpOp} {r : R2} (ho : OpR X (compareOp op) r) (ha : PE X a ta) (hb : PE X b tb) (hm : behindInMarks op b = false) : PT X (.Compare a [op] [b] pos) (tTest (tOp r ta tb)) := by
  intro pins s σ H Q I h
  refine wpAny_isTrue_Compare1 (thn (ha pins s σ H _ I h) fun v s1 ⟨x, H1, I1, r1, q1⟩ => thn (hb pins s1 σ H1 _ I1 q1) fun u s2 ⟨y, H2, I2, r2, q2⟩ =>
    thn (ho pins s2 σ H2 x y v u _ I2 r1 r2 q2) fun c s3 ⟨z, H3, I3, r3, k, e, q3⟩ => ?_) hm
  subst e
  cases r3
  exact wpAny_truthy_bool ⟨H3, I3, q3⟩
/-- a op1 b op2 c -/
def tChain (r r' : R2) (ta tb tc : TE) : TE := fun σ H Q => ta σ H fun x H1 => tb σ H1 fun y H2 => r x y H2 fun z H3 => ∃ k, z = .bl k ∧
  (if k = true then tc σ H3 fun w' H4 => r' y w' H4 Q else Q (.bl false) H3)
/-! ### truth -/
/-- a value's truth by the abstract heap -/
def TruV (K : PySem.W.Frag) (x : V) (H : Hp) (k : Bool) : Prop :=
  match x with
  | .non => k = false
  | .bl b => k = b
  | .int i => k = (i != 0)
  | .str y => y.length ≤ sizeLine ∧ k = ((y.length : Int) != 0)
  | .byt y => y.size ≤ sizeLine ∧ k = ((y.size : Int) != 0)
  | .ref p => (∃ xs, SqL K H p xs ∧ k = !xs.isEmpty) ∨ (∃ xs, SqT K H p xs ∧ k = !xs.isEmpty) ∨ ∃ kvs, H p = some (.dK kvs) ∧ k = !kvs.isEmpty
  | _ => False
theorem isEmpty_kv {κ : Type} {kvs : List (κ × V)} {vs : List (κ × Value)} (r : KV kvs vs) : (!vs.isEmpty) = !kvs.isEmpty := by
  cases r <;> rfl
theorem isEmpty_of {xs : List V} {its : List Value} (r : Vals xs its) : (!its.toArray.isEmpty) = !xs.isEmpty := by
  cases r <;> simp
theorem line63 : (sizeLine : Nat) < 2 ^ 63 := by rw [sizeLine_eq]; decide
theorem tru_ok : TruR X (fun x H Q => ∃ k, TruV X.K x H k ∧ Q k H) := by
  intro pins s σ H x v Q I rx h
  obtain ⟨k, e, q⟩ := h
  have hl := line63
  have hs : sizeLine = 16777216 := sizeLine_eq
  cases x with
  | non =>
    cases rx
    have e' : k = false := e
    subst e'
    exact truthy_none ⟨H, I, q⟩
  | bl b =>
    cases rx
    have e' : k = b := e
    subst e'
    exact wpAny_truthy_bool ⟨H, I, q⟩
  | int i =>
    obtain ⟨t, rfl⟩ := rx
    have e' : k = (i != 0) := e
    subst e'
    exact PySem.P.truthy_int ⟨H, I, q⟩
  | str y =>
    obtain ⟨t, rfl⟩ := rx
    obtain ⟨hy, e'⟩ : y.length ≤ sizeLine ∧ k = ((y.length : Int) != 0) := e
    subst e'
    exact PySem.P.truthy_str (by omega) ⟨H, I.tok _, q⟩
  | byt y =>
    obtain ⟨t, rfl⟩ := rx
    obtain ⟨hy, e'⟩ : y.size ≤ sizeLine ∧ k = ((y.size : Int) != 0) := e
    subst e'
    exact PySem.W.truthy_bytes (by omega) ⟨H, I.tok _, q⟩
  | ref p =>
    cases rx
    have e' : (∃ xs, SqL X.K H p xs ∧ k = !xs.isEmpty) ∨ (∃ xs, SqT X.K H p xs ∧ k = !xs.isEmpty) ∨ ∃ kvs, H p = some (.dK kvs) ∧ k = !kvs.isEmpty := e
    rcases e' with ⟨xs, hx, e'⟩ | ⟨xs, hx, e'⟩ | ⟨kvs, hx, e'⟩
    · subst e'
      obtain ⟨its, r, pl, hz⟩ := I.list hx
      have hlen := r.length
      exact wpAny_truthy_list pl.isList (by simp only [List.size_toArray]; omega) ⟨H, I.tok _, by rw [isEmpty_of r]; exact q⟩
    · subst e'
      obtain ⟨its, r, pl, hz⟩ := I.tuple hx
      have hlen := r.length
      exact truthy_tuple pl (by simp only [List.size_toArray]; omega) ⟨H, I.tok _, by rw [isEmpty_of r]; exact q⟩
    · subst e'
      obtain ⟨hz, hS, vs, r, m⟩ : kvs.length ≤ sizeLine ∧ (p == sysModules) = false ∧ ∃ vs, KV kvs vs ∧ s.heap.DictOf (mixKind X.prog X.w) p vs := I.hok p _ hx
      have hlen : kvs.length = vs.length := Paired.length r
      exact wpAny_truthy_dict hS m (by omega) ⟨H, I.tok _, by rw [isEmpty_kv r]; exact q⟩
  | _ => exact (show False from e).elim
/-- any expression whose test is its value's truth (a name, a call, a subscript, a field ..: he by fun _ => rfl) -/
theorem pt_truth (ha : PE X a ta) (he : ∀ whole, isTrue a X.env whole = (do let v ← whole; standAt a.pos; holding [v] (truthy v))) :
    PT X a (fun σ H Q => ta σ H fun x H' => ∃ k, TruV X.K x H' k ∧ Q k H') := by
  intro pins s σ H Q I h
  exact isTrue_plain (thn (ha pins s σ H _ I h) fun v s1 ⟨x, H1, I1, r1, q1⟩ => tru_ok pins s1 σ H1 x v Q I1 r1 q1) (he _)

/-! ### strs and bytes -/
def PlainIxT (b : Expr) : Prop := ∀ o i, subscripted b false o i = operate [o, i] (getItem o i)
/-! ### scalar builtins, by CallR -/
theorem vals1 {x : V} {us : List Value} (r : Vals [x] us) : ∃ u, us = [u] ∧ RelV x u := by
  cases r with
  | cons r1 r2 => cases r2; exact ⟨_, rfl, r1⟩
theorem vals2 {x y : V} {us : List Value} (r : Vals [x, y] us) : ∃ u w', us = [u, w'] ∧ RelV x u ∧ RelV y w' := by
  cases r with
  | cons r1 r2 =>
    cases r2 with
    | cons r3 r4 => cases r4; exact ⟨_, _, rfl, r1, r3⟩
theorem call_abs : CallR X (.builtin "abs") (fun xs H Q => ∃ i, xs = [.int i] ∧ Q (.int (if i < 0 then -i else i)) H) := by
  intro pins s σ H xs us Q I r h
  obtain ⟨i, rfl, q⟩ := h
  obtain ⟨u, rfl, t, rfl⟩ := vals1 r
  exact call_abs_int fun u tk => ⟨.int (if i < 0 then -i else i), H, I.tok _, ⟨_, rfl⟩, q⟩
/-- len of a str, a bytes, a list, a tuple -/
def LenV (K : PySem.W.Frag) (x : V) (H : Hp) (n : Nat) : Prop :=
  match x with
  | .str y => y.length ≤ sizeLine ∧ n = y.length
  | .byt y => y.size ≤ sizeLine ∧ n = y.size
  | .ref p => (∃ xs, SqL K H p xs ∧ n = xs.length) ∨ ∃ xs, SqT K H p xs ∧ n = xs.length
  | _ => False
end
end L2

namespace L2
open PySem PySem.Spec PyProof.Rows

/-! ### an instance, its attributes a map -/
structure ObjM (h : Heap) (x dx C : Addr) (mA : Str → Option Value) : Prop where
  obj : h.get? x = some (PySem.W.instObj C dx)
  ns : h.Ns1 dx mA
  ne : dx ≠ x

theorem lookIn_ns {h : Heap} {dx : Addr} {mA : Str → Option Value} (n : h.Ns1 dx mA) : ∃ od, h.get? dx = some od ∧ ∀ name, PySem.W.lookIn name od = some (mA name) := by
  obtain ⟨o, es, ep, ho, hd, hk, _, hm⟩ := n
  refine ⟨o, ho, fun name => ?_⟩
  have e := hm name
  unfold nsFind findBy at e
  rw [← Array.find?_toList] at e
  unfold PySem.W.lookIn
  rw [hd]
  dsimp only
  split
  · rename_i y q
    rw [q] at e
    exact congrArg some e
  · rename_i q
    rw [q] at e
    have a : es.toList.any (·.refKey) = false := by
      rw [List.any_eq_false]
      intro y hy
      obtain ⟨z, t, hkey⟩ := hk y (Array.mem_toList_iff.mp hy)
      simp [DictEntry.refKey, hkey]
    have a' : ¬ es.toList.any (·.refKey) = true := by rw [a]; exact Bool.false_ne_true
    rw [if_neg a']
    exact congrArg some e

theorem ObjM.look {h : Heap} {x dx C : Addr} {mA : Str → Option Value} (I : ObjM h x dx C mA) : ∃ od, PySem.W.InstAt h x (PySem.W.instObj C dx) C (some od) ∧ ∀ name, PySem.W.lookIn name od = some (mA name) :=
  let ⟨od, ho, hl⟩ := lookIn_ns I.ns
  ⟨od, ⟨I.obj, rfl, rfl, ho⟩, hl⟩

section
variable {prog : Program} {w : World} {A : Around} {E : Value → Shared → Prop} {s : Shared} {K : PySem.W.Frag} {x dx C f : Addr} {mA : Str → Option Value} {name : Str} {v : Value}

end

/-! ### the attributes as a list of pairs -/
def putF (f : Str) (v : V) : List (Str × V) → List (Str × V)
  | [] => [(f, v)]
  | (g, x) :: r => if g = f then (g, v) :: r else (g, x) :: putF f v r
section
variable {P : Program} {w : World} {H H' : Hp} {h h' : Heap} {a C dx : Addr} {fs fs' : List (Str × V)}
theorem ins_get (hok : HOk P w H h) (e : H a = some (.ins C dx fs)) : ∃ mA, ObjM h a dx C mA ∧ (∀ f, RelO (fs.lookup f) (mA f)) ∧ PySem.Within mA (fs.map (·.1)) ∧ fs.length ≤ 1000 ∧ H dx = some (.own a) := by
  obtain ⟨d, z, ne, ob, mA, n, r, q⟩ := (show ObjOk P w H h a (.ins C dx fs) from hok a _ e)
  exact ⟨mA, ⟨ob, n, ne⟩, r, q, z, d⟩
end

/-! ### what of the text a class must have -/
structure Cls (K : PySem.W.Frag) (C : Addr) : Prop where
  pg : PySem.W.plainGet K C Str.empty = true
  hd : PySem.W.hasDictIn K C = true
  po : PySem.W.plainOver K C = true
  sa : PySem.W.findIn K (.ref C) "__setattr__" = some (some (.builtin "object.__setattr__"))
theorem Cls.get {K : PySem.W.Frag} {C : Addr} (c : Cls K C) (f : Str) : PySem.W.plainGet K C f = true := c.pg
/-- no class of it has the name -/
def NoAttr (K : PySem.W.Frag) (C : Addr) (f : Str) : Prop := PySem.W.findIn K (.ref C) f = some none
/-- a constant of the class -/
structure Con (K : PySem.W.Frag) (C : Addr) (f : Str) (v : V) (u : Value) : Prop where
  at_ : PySem.W.findIn K (.ref C) f = some (some u)
  rel : RelV v u
  get : PySem.W.specialIn K u "__get__" = some none
  cp : PySem.W.copiedNames.contains f = false
/-- a method: a plain def of the class or of one above it -/
structure Meth (K : PySem.W.Frag) (C : Addr) (m : Str) (f : Addr) : Prop where
  at_ : PySem.W.findIn K (.ref C) m = some (some (.ref f))
  fn : PySem.W.isFn K (.ref f) = true
  kp : PySem.W.keepIn K (.ref f) = true

section
variable {X : Cx} {pins : List (Addr × Obj)} {σ : St} {H : Hp} {s : Shared} {a C dx : Addr} {fs : List (Str × V)} {f : Str} {v : V} {A : Around} {E : Value → Shared → Prop}

/-- e.f where nothing but the object is asked: through attributeBase (super) and the last hold -/
theorem attr_of {prog : Program} {w : World} {env : Env} {e : Expr} {f : Str} {pos : Pos} {s : Shared} {Q : Value → Shared → Prop} (hb : attributeBase e f env (eval e env) = eval e env)
    (h : wpAny (model prog w) A (eval e env) (fun o s₁ => wpAny (model prog w) A (getAttr o f true) Q E s₁) E s) : wpAny (model prog w) A (eval (.Attribute e f pos) env) Q E s :=
  Attribute_any_ h (by rw [arm_eval_Attribute, hb])
end

/-! ### readings and rules -/
/-- e.f, an attribute of the instance -/
def tFld (K : PySem.W.Frag) (ta : TE) (f : Str) : TE := fun σ H Q => ta σ H fun x H1 => ∃ a C dx fs v, x = .ref a ∧ H1 a = some (.ins C dx fs) ∧ Cls K C ∧ NoAttr K C f ∧ fs.lookup f = some v ∧ Q v H1
/-- e.f, a constant of the class -/
def tCon (K : PySem.W.Frag) (ta : TE) (f : Str) : TE := fun σ H Q => ta σ H fun x H1 => ∃ a C dx fs v u, x = .ref a ∧ H1 a = some (.ins C dx fs) ∧ Cls K C ∧ Con K C f v u ∧ fs.lookup f = none ∧ Q v H1
/-- e.f = value -/
def sFld (K : PySem.W.Frag) (ta tv : TE) (f : Str) : TS := fun D σ H => tv σ H fun y H1 => ta σ H1 fun x H2 => ∃ a C dx fs, x = .ref a ∧ H2 a = some (.ins C dx fs) ∧ Cls K C ∧ NoAttr K C f ∧ fs.length < 1000 ∧
  D.nx σ (upd H2 a (.ins C dx (putF f y fs)))
/-- an augmented operator on two values -/
def InOp (X : Cx) (op : Operator) (rd : V → V → Hp → VK → Prop) : Prop :=
  ∀ (pins : List (Addr × Obj)) (s : Shared) (σ : St) (H : Hp) (x y : V) (u v : Value) (Q : VK), Inv X pins σ H s → RelV x u → RelV y v → rd x y H Q → wpAny (model X.prog X.w) X.A (inplaceOp op u v) (EP X pins σ Q) X.xe s
/-- e.f op= value -/
def sFldAug (K : PySem.W.Frag) (ta tv : TE) (rd : V → V → Hp → VK → Prop) (f : Str) : TS := fun D σ H => ta σ H fun x H1 => ∃ a C dx fs v, x = .ref a ∧ H1 a = some (.ins C dx fs) ∧ Cls K C ∧ NoAttr K C f ∧ fs.lookup f = some v ∧
  tv σ H1 fun y H2 => rd v y H2 fun z H3 => ∃ dx' fs', H3 a = some (.ins C dx' fs') ∧ fs'.length < 1000 ∧ D.nx σ (upd H3 a (.ins C dx' (putF f z fs')))

section
variable {X : Cx} {o e value : Expr} {f : Str} {pos pos' tpos : Pos} {ta tv : TE}
def rAdd : V → V → Hp → VK → Prop := fun x y H Q => ∃ i j, x = .int i ∧ y = .int j ∧ Q (.int (i + j)) H
def rSub : V → V → Hp → VK → Prop := fun x y H Q => ∃ i j, x = .int i ∧ y = .int j ∧ Q (.int (i - j)) H
end

/-! ### isinstance -/
section
variable {X : Cx} {pins : List (Addr × Obj)} {σ : St} {H : Hp} {s : Shared} {A : Around} {E : Value → Shared → Prop} {Q : Value → Shared → Prop} {c : Value} {b : Bool}
/-- the type of a value, as the fragment's deciders take it; for an instance its class -/
inductive TyOf (K : PySem.W.Frag) (H : Hp) : V → Value → Prop where
  | non : TyOf K H .non (.type "NoneType")
  | bl (x : Bool) : TyOf K H (.bl x) (.type "bool")
  | int (i : Int) : TyOf K H (.int i) (.type "int")
  | str (x : Str) : TyOf K H (.str x) (.type "str")
  | flt (x : UInt64) : TyOf K H (.flt x) (.type "float")
  | lst {a : Addr} {xs : List V} (e : H a = some (.lst xs)) : TyOf K H (.ref a) (.type "list")
  | frz {a : Addr} {o : Obj} {xs : List V} (e : H a = some (.frz o (.lst xs))) : TyOf K H (.ref a) (.type "list")
  | tup {a : Addr} {xs : List V} (e : H a = some (.tup xs)) : TyOf K H (.ref a) (.type "tuple")
  | dK {a : Addr} {kvs : List (Key × V)} (e : H a = some (.dK kvs)) : TyOf K H (.ref a) (.type "dict")
  | dT {a : Addr} {kvs : List (List Key × V)} (e : H a = some (.dT kvs)) : TyOf K H (.ref a) (.type "dict")
  | ins {a C dx : Addr} {fs : List (Str × V)} (e : H a = some (.ins C dx fs)) (cl : Cls K C) (ha : PySem.W.findIn K (.ref C) "__class__" = some (some (.builtin "object.__class__")))
      (hn : PySem.W.specialIn K (.builtin "object.__class__") "__get__" = some (some (.builtin "getset_descriptor.__get__"))) (htk : PySem.W.takesIn K (.builtin "object.__class__") = some true)
      (hm : PySem.W.mroIn K C (.type "object") = some true) : TyOf K H (.ref a) (.ref C)
/-- isinstance(x, c) for one class c, a built-in or an own one: kitOne's answer -/
theorem isinst_ok {x : V} {u t : Value} (I : Inv X pins σ H s) (rx : RelV x u) (ty : TyOf X.K H x t) (e : PySem.W.kitOne X.K t c = some b) (h : ∀ tk, Q (.bool b) { s with toks := tk }) :
    wpAny (model X.prog X.w) A (call (.builtin "isinstance") [u, c]) Q E s := by
  cases ty with
  | non => cases (show u = Value.none from rx); exact PySem.W.kia_one PySem.W.kitx_none I.kIn True.intro e (fun z => nomatch z) h
  | bl y => cases (show u = Value.bool y from rx); exact PySem.W.kia_one PySem.W.kitx_bool I.kIn True.intro e (fun z => nomatch z) h
  | int i => obtain ⟨t, q⟩ := (show ∃ t, u = Value.int i t from rx); cases q; exact PySem.W.kia_one PySem.W.kitx_int I.kIn True.intro e (fun z => nomatch z) h
  | str y => obtain ⟨t, q⟩ := (show ∃ t, u = Value.str y t from rx); cases q; exact PySem.W.kia_one PySem.W.kitx_str I.kIn True.intro e (fun z => nomatch z) h
  | flt y => obtain ⟨t, q⟩ := (show ∃ t, u = Value.float y t from rx); cases q; exact PySem.W.kia_one PySem.W.kitx_float I.kIn True.intro e (fun z => nomatch z) h
  | @lst a xs ea =>
    cases (show u = Value.ref a from rx)
    obtain ⟨_, _, n, _, h1⟩ := (show ObjOk X.prog X.w H s.heap a (.lst xs) from I.hok a _ ea)
    exact PySem.W.kia_one PySem.W.kitx_list I.kIn ⟨_, h1, rfl⟩ e (fun z => nomatch z) h
  | @frz a ob xs ea =>
    cases (show u = Value.ref a from rx)
    obtain ⟨_, _, _, n, _, h1⟩ := (show ObjOk X.prog X.w H s.heap a (.frz ob (.lst xs)) from I.hok a _ ea)
    exact PySem.W.kia_one PySem.W.kitx_list I.kIn ⟨_, h1, rfl⟩ e (fun z => nomatch z) h
  | @tup a xs ea =>
    cases (show u = Value.ref a from rx)
    obtain ⟨_, _, _, p⟩ := (show ObjOk X.prog X.w H s.heap a (.tup xs) from I.hok a _ ea)
    obtain ⟨o, h1, h2, _⟩ := p
    exact PySem.W.kia_one PySem.W.kitx_tuple I.kIn ⟨o, h1, h2⟩ e (fun z => nomatch z) h
  | @dK a kvs ea =>
    cases (show u = Value.ref a from rx)
    obtain ⟨_, _, vs, _, p⟩ := (show ObjOk X.prog X.w H s.heap a (.dK kvs) from I.hok a _ ea)
    obtain ⟨o, es, ep, h1, h2, _⟩ := p
    exact PySem.W.kia_one PySem.W.kitx_dict I.kIn ⟨o, h1, h2.1⟩ e (fun z => nomatch z) h
  | @dT a kvs ea =>
    cases (show u = Value.ref a from rx)
    obtain ⟨_, _, xs, _, o, es, ep, h1, h2, _⟩ := (show ObjOk X.prog X.w H s.heap a (.dT kvs) from I.hok a _ ea)
    exact PySem.W.kia_one PySem.W.kitx_dict I.kIn ⟨o, h1, h2.1⟩ e (fun z => nomatch z) h
  | @ins a C dx fs ea cl ha hn htk hm =>
    cases (show u = Value.ref a from rx)
    obtain ⟨mA, O, _⟩ := ins_get I.hok ea
    obtain ⟨od, J, _⟩ := O.look
    exact PySem.W.kia_one (PySem.W.kitx_own (cl.get _) cl.hd ha hn htk hm) I.kIn J e (fun z => nomatch z) h
end
end L2

namespace L2
open PySem PySem.Spec PyProof.Rows

/-! ### room -/
structure Room (k : Nat) (A : Around) : Prop where
  hd : A.handled = none
  dp : A.depth + 3 * k + 5 < recursionLimit
  un : A.units + 16 * k + 200 < cLine
theorem Room.mono {j k : Nat} {A : Around} (r : Room k A) (h : j ≤ k) : Room j A := ⟨r.hd, by have := r.dp; omega, by have := r.un; omega⟩
theorem Room.deeper {k : Nat} {A : Around} (r : Room (k + 1) A) (env : Env) : Room k (A.deeper env) :=
  ⟨r.hd, by have := r.dp; show A.depth + 1 + 3 * k + 5 < _; omega, by have := r.un; show A.units + 3 + 16 * k + 200 < _; omega⟩
theorem make_depth {A : Around} {C : Addr} {us : List Value} {kw : List (Str × Value)} : (A.under (.builtin "type.__call__" ⟨.ref C :: us, kw⟩)).depth = A.depth + 1 := by
  first | rfl | simp [Around.under, Code.weight, Code.isCreation, Code.isGuard, Code.isCaller, Code.frames, Code.isFrame, guardIds]
theorem make_units {A : Around} {C : Addr} {us : List Value} {kw : List (Str × Value)} : (A.under (.builtin "type.__call__" ⟨.ref C :: us, kw⟩)).units = A.units + 1 := by
  first | rfl | simp [Around.under, Code.cUnits, Code.frames, Code.isFrame]
theorem Room.make {k : Nat} {A : Around} (r : Room (k + 1) A) (C : Addr) (us : List Value) (kw : List (Str × Value)) : Room k (A.under (.builtin "type.__call__" ⟨.ref C :: us, kw⟩)) :=
  ⟨r.hd, by have := r.dp; rw [make_depth]; omega, by have := r.un; rw [make_units]; omega⟩
theorem Room.depth {k : Nat} {A : Around} (r : Room k A) : A.depth < recursionLimit := by have := r.dp; omega
theorem Room.units {k : Nat} {A : Around} (r : Room k A) : A.units + 64 < cLine := by have := r.un; omega
/-! ### argument lists and displays -/
def tNil : TA := fun _ H Q => Q [] H
def tCons (ta : TE) (tr : TA) : TA := fun σ H Q => ta σ H fun x H1 => tr σ H1 fun xs H2 => Q (x :: xs) H2
section
variable {X : Cx} {e : Expr} {es : List Expr} {te : TE} {t : TA} {pos : Pos}
theorem pa_nil : PA X [] tNil := fun _ _ _ _ H Q I h => Calls.spliced_nil ⟨[], H, I, .nil, h⟩
theorem pa_cons (ha : PE X e te) (hr : PA X es t) (hs : starEach (e :: es) X.env = (false, eval e X.env) :: starEach es X.env := by rfl) : PA X (e :: es) (tCons te t) := by
  intro pos pins s σ H Q I h
  rw [hs]
  show wpAny _ _ (spliced ((false, eval e X.env) :: backTo pos (starEach es X.env))) _ _ s
  refine Calls.spliced_cons (thn (ha pins s σ H _ I h) fun u s1 ⟨x, H1, I1, r1, q1⟩ => ?_)
  exact thn (hr pos pins s1 σ H1 _ I1 q1) fun us s2 ⟨xs, H2, I2, r2, q2⟩ => ⟨x :: xs, H2, I2, .cons r1 r2, q2⟩

/-- a tuple, a list of written items -/
def tTup (t : TA) : TE := fun σ H Q => t σ H fun xs H1 => xs.length ≤ sizeLine ∧ ∀ p, H1 p = none → Q (.ref p) (upd H1 p (.tup xs))
def tLst (t : TA) : TE := fun σ H Q => t σ H fun xs H1 => xs.length ≤ sizeLine ∧ ∀ p, H1 p = none → Q (.ref p) (upd H1 p (.lst xs))
theorem pe_tup {x1} (h : PA X es t) : PE X (.Tuple es x1 pos) (tTup t) := by
  intro pins s σ H Q I hq
  refine wpAny_Tuple_spliced (thn (h pos pins s σ H _ I hq) fun us s1 ⟨xs, H1, I1, r, z, q⟩ => ⟨by rw [← r.length]; exact z, ?_⟩)
  have hf : H1 s1.heap.objs.size = none := I1.hok.fresh (Nat.le_refl _)
  refine ⟨.ref s1.heap.objs.size, upd H1 s1.heap.objs.size (.tup xs), I1.laid (t' := s1.toks) (fun b u e => Heap.get?_push_of_some _ e) (Nat.le_refl _) ?_, rfl, q _ hf⟩
  exact ⟨z, us, r, ⟨_, Heap.get?_push_size _ rfl, rfl, _, rfl⟩⟩
theorem pe_lst (h : PA X es t) : PE X (.List es pos) (tLst t) := by
  intro pins s σ H Q I hq
  refine wpAny_List_spliced (thn (h pos pins s σ H _ I hq) fun us s1 ⟨xs, H1, I1, r, z, q⟩ => ⟨by rw [← r.length]; exact z, ?_⟩)
  have hf : H1 s1.heap.objs.size = none := I1.hok.fresh (Nat.le_refl _)
  refine ⟨.ref s1.heap.objs.size, upd H1 s1.heap.objs.size (.lst xs), I1.laid (t' := s1.toks) (fun b u e => Heap.get?_push_of_some _ e) (Nat.le_refl _) ?_, rfl, q _ hf⟩
  exact ⟨z, us, 0, r, Heap.get?_push_size _ rfl⟩
end

/-! ### what a def promises -/
/-- a def's promise: the bound arguments in the parameters' order, the heap, the wanted end, the wanted exception -/
abbrev Sp := List V → Hp → VK → XK → Prop
/-- how an exception lies behind a call (file 08 gives it): the callers' frames, abstract heap and state ahead of the call, the wish, the exception, the state -/
abbrev CXT := List Env → Hp → Shared → XK → Value → Shared → Prop

/-- the state at a call -/
structure Env0 (P : Program) (w : World) (K : PySem.W.Frag) (mg : Str → Option Value) (base : Heap) (A : Around) (outer : List Env) (s : Shared) (H : Hp) : Prop where
  frames : A.frames = some outer
  mod : Mod K mg base
  bs : ∀ b o, base.get? b = some o → s.heap.get? b = some o ∧ H b = none
  bsz : base.objs.size ≤ s.heap.objs.size
  funs : s.heap.FunFrames base outer
  frf : ∀ b ∈ frs outer, H b = none
  hok : HOk P w H s.heap
  bare : AllBare s.gens
/-- a call's end -/
def CE (outer : List Env) (P : Program) (w : World) (H : Hp) (s : Shared) (Q : VK) (u : Value) (s' : Shared) : Prop :=
  ∃ v H', s'.os = s.os ∧ AllBare s'.gens ∧ Un (frs outer) [] H H' s.heap s'.heap ∧ HOk P w H' s'.heap ∧ RelV v u ∧ Q v H'
def CR (CX : CXT) (outer : List Env) (P : Program) (w : World) (H : Hp) (s : Shared) (Q : VK) (E : XK) (r : Result) (s' : Shared) : Prop :=
  match r with
  | .ok (.ret u) => CE outer P w H s Q u s'
  | .ok _ => False
  | .error e => CX outer H s E e s'
structure FnOk (P : Program) (w : World) (K : PySem.W.Frag) (mg : Str → Option Value) (base : Heap) (CX : CXT) (k : Nat) (f : Addr) (fd : FuncData) (ps : List Str) (sp : Sp) : Prop where
  len : ∀ vs H Q E, sp vs H Q E → vs.length = ps.length
  run : ∀ (A : Around) (outer : List Env) (s : Shared) (H : Hp) (args : Args) (us : List Value) (vs : List V) (Q : VK) (E : XK), Room k A → Env0 P w K mg base A outer s H → BindsTo s fd args (ps.zip us) → Vals vs us → sp vs H Q E →
    codeAny (model P w) A (.call (.ref f) args) (CR CX outer P w H s Q E) s
theorem Env0.make {P : Program} {w : World} {K : PySem.W.Frag} {mg : Str → Option Value} {base : Heap} {A : Around} {outer : List Env} {s : Shared} {H : Hp} (e : Env0 P w K mg base A outer s H) (C : Addr) (us : List Value) (kw : List (Str × Value)) :
    Env0 P w K mg base (A.under (.builtin "type.__call__" ⟨.ref C :: us, kw⟩)) outer s H := ⟨by first | exact e.frames | (simpa [Around.under, Code.envs, Code.isFrame, pushEnvs] using e.frames), e.mod, e.bs, e.bsz, e.funs, e.frf, e.hok, e.bare⟩
section
variable {X : Cx} {pins : List (Addr × Obj)} {σ : St} {H : Hp} {s s' : Shared}
/-- from a body: what a callee wants -/
theorem Inv.env0 (I : Inv X pins σ H s) : Env0 X.prog X.w X.K X.mg X.base X.A X.stack s H :=
  ⟨I.ok.frames, I.ok.mod, I.bs, Nat.le_trans I.ok.bsz I.sz, I.stack, I.stkFree, I.hok, I.bare⟩
/-- behind a call -/
theorem Inv.after {Q : VK} {u : Value} (I : Inv X pins σ H s) (h : CE X.stack X.prog X.w H s Q u s') : EP X pins σ Q u s' := by
  obtain ⟨v, H', os, bare, un, hok, r, q⟩ := h
  obtain ⟨hh, g, d, t, os'⟩ := s'
  obtain rfl : os' = s.os := os
  exact ⟨v, H', I.call (h' := hh) (g' := g) (d' := d) (t' := t) (ch := []) un hok bare (fun b z => absurd z (by simp)), r, q⟩
end

/-! ### calls -/
/-- f(..): the written arguments, then the defaults dvs; E: what is wanted of an exception -/
def tCall (sp : Sp) (dvs : List V) (E : XK) (t : TA) : TE := fun σ H Q => t σ H fun vs H1 => sp (vs ++ dvs) H1 Q E
/-- o.m(..) of an instance of the class at C -/
def tMeth (C : Addr) (m : Str) (sp : Sp) (dvs : List V) (E : XK) (ta : TE) (t : TA) : TE := fun σ H Q => ta σ H fun x H1 => ∃ a dx fs, x = .ref a ∧ H1 a = some (.ins C dx fs) ∧ fs.lookup m = none ∧
  t σ H1 fun vs H2 => sp (x :: (vs ++ dvs)) H2 Q E
/-- C(..): a new instance and its dict, then __init__ -/
def tMake (C : Addr) (sp : Sp) (dvs : List V) (E : XK) (t : TA) : TE := fun σ H Q => t σ H fun vs H1 => ∀ x dx, H1 x = none → H1 dx = none → dx ≠ x →
  sp (.ref x :: (vs ++ dvs)) (upd (upd H1 dx (.own x)) x (.ins C dx [])) (fun v H2 => v = .non ∧ Q (.ref x) H2) E

/-- how the parameters are bound: us the positional arguments, kw the keywords' values by name, ds the defaults that fill up -/
def Binds (K : PySem.W.Frag) (fd : FuncData) (ps : List Str) (ds : List Value) : Prop :=
  ∀ (s : Shared) (us : List Value), K.In s.heap → (us ++ ds).length = ps.length → BindsTo s fd ⟨us, []⟩ (ps.zip (us ++ ds))
/-- every parameter is given -/
theorem Binds.all {K : PySem.W.Frag} {fd : FuncData} {ps : List Str} (h : ∀ us : List Value, us.length = ps.length → bindArgs fd ⟨us, []⟩ = pure (ps.zip us)) : Binds K fd ps [] := fun s us _ hl => by
  rw [List.append_nil] at hl ⊢
  exact .of_eq (h us hl)

/-- an exception of a callee reaches what this body wants of exceptions -/
def Passes (CX : CXT) (X : Cx) (E : XK) : Prop := ∀ (pins : List (Addr × Obj)) (σ : St) (H : Hp) (s : Shared) (e : Value) (s' : Shared), Inv X pins σ H s → CX X.stack H s E e s' → X.xe e s'

section
variable {X : Cx} {CX : CXT} {k : Nat} {f C : Addr} {fd : FuncData} {ps : List Str} {sp : Sp} {dvs : List V} {ds : List Value} {E : XK} {x m : Str} {p pos apos : Pos} {e o : Expr} {es : List Expr} {ta : TE} {t : TA}

/-- the callee runs -/
theorem run_fn {pins : List (Addr × Obj)} {σ : St} {H : Hp} {s : Shared} {Q : VK} {us : List Value} {vs : List V} (F : FnOk X.prog X.w X.K X.mg X.base CX k f fd ps sp) (hr : Room k X.A) (hb : Binds X.K fd ps ds) (hd : Vals dvs ds) (hx : Passes CX X E)
    (I : Inv X pins σ H s) (r : Vals vs us) (h : sp (vs ++ dvs) H Q E) : wpAny (model X.prog X.w) X.A (call (.ref f) us) (EP X pins σ Q) X.xe s := by
  have r2 : Vals (vs ++ dvs) (us ++ ds) := r.append hd
  have hl : (us ++ ds).length = ps.length := by rw [← r2.length]; exact F.len _ _ _ _ h
  refine wpAny_call (codeAny_mono (F.run X.A X.stack s H ⟨us, []⟩ (us ++ ds) (vs ++ dvs) Q E hr I.env0 (hb s us I.kIn hl) r2 h) fun r s' hq => ?_)
  cases r with
  | error e => exact hx pins σ H s e s' I hq
  | ok fl =>
    cases fl with
    | ret u => exact I.after hq
    | next => exact False.elim hq
    | brk => exact False.elim hq
    | cont => exact False.elim hq

theorem pe_call (F : FnOk X.prog X.w X.K X.mg X.base CX k f fd ps sp) (hr : Room k X.A) (hg : Gl X x) (hm : X.mg x = some (.ref f)) (hk : PySem.W.keepIn X.K (.ref f) = true) (hb : Binds X.K fd ps ds) (hd : Vals dvs ds) (hx : Passes CX X E)
    (ha : PA X (e :: es) t) (hdb : (x == ("__debug__" : Str)) = false := by decide) (he : starEach (e :: es) X.env = (false, eval e X.env) :: starEach es X.env := by rfl) (hpl : (backTo pos (starEach es X.env)).any (·.1) = false := by rfl) :
    PE X (.Call (.Name x p) (e :: es) [] pos) (tCall sp dvs E t) := by
  intro pins s σ H Q I h
  refine wpAny_Call_Name_kw (ld_glob I hg hm ?_ hdb)
  refine PySem.W.callWith_K (h₀ := X.base) I.ok.mod.kin hk (thn (ha pos pins s σ H _ I h) fun us s1 ⟨vs, H1, I1, r, q⟩ => ⟨I1.kIn, ?_⟩) he hpl
  exact run_fn F hr hb hd hx I1 r q
/-- what a class must have to be made -/
structure Mk (K : PySem.W.Frag) (C f : Addr) : Prop where
  makes : PySem.W.makesIn K C = true
  init : PySem.W.findIn K (.ref C) "__init__" = some (some (.ref f))
  fn : PySem.W.isFn K (.ref f) = true
  kp : PySem.W.keepIn K (.ref C) = true

end

/-! ### keywords -/
/-- the values of the keywords, from the left -/
def PK (X : Cx) (kws : List Keyword) (t : TA) : Prop :=
  ∀ (pos : Pos) (pins : List (Addr × Obj)) (s : Shared) (σ : St) (H : Hp) (Q : List V → Hp → Prop), Inv X pins σ H s → t σ H Q → wpAny (model X.prog X.w) X.A (evalAll ((backToKw pos (keywordEach kws X.env)).map (·.2))) (AP X pins σ Q) X.xe s
section
variable {X : Cx} {CX : CXT} {k : Nat} {f C : Addr} {fd : FuncData} {ps ks : List Str} {sp : Sp} {E : XK} {x m : Str} {p pos apos kpos : Pos} {e o : Expr} {es : List Expr} {kws : List Keyword} {te ta : TE} {t tk : TA} {nm : Option Str}
/-- how a call with keywords binds: g puts the positional values us and the keywords' values ws (names ks) in the parameters' order, defaults among them -/
structure KBinds (K : PySem.W.Frag) (fd : FuncData) (ps ks : List Str) (g : List Value → List Value → List Value) (gV : List V → List V → List V) : Prop where
  to : ∀ (s : Shared) (us ws : List Value), K.In s.heap → (g us ws).length = ps.length → BindsTo s fd ⟨us, ks.zip ws⟩ (ps.zip (g us ws))
  rel : ∀ {vs : List V} {us : List Value} {zs : List V} {ws : List Value}, Vals vs us → Vals zs ws → Vals (gV vs zs) (g us ws)
def tCallK (sp : Sp) (gV : List V → List V → List V) (E : XK) (t tk : TA) : TE := fun σ H Q => t σ H fun vs H1 => tk σ H1 fun zs H2 => sp (gV vs zs) H2 Q E
variable {g : List Value → List Value → List Value} {gV : List V → List V → List V}
end

/-! ### a def's body keeps its promise -/
/-- names: the parameters first -/
structure FnScope (N P : List Str) (sc : Scope) : Prop where
  kind : sc.kind = .function
  co : sc.isCoroutine = false
  gen : sc.isGenerator = false
  nd : N.Nodup
  pre : N.take P.length = P
  par : ∀ x ∈ P, sc.names.lookup x = some .local ∨ sc.names.lookup x = some .cell
  nofree : ∀ y ∈ sc.names, y.2 ≠ .free

theorem bindL_out {kindOf : Str → Option NameKind} {x : Str} : ∀ {binds : List (Str × Value)} {m : Str → Option Value}, (∀ v, (x, v) ∉ binds) → bindL kindOf binds m x = m x
  | [], _, _ => rfl
  | (n, v) :: r, m, h => by
    unfold bindL
    rw [bindL_out fun w hw => h w (List.mem_cons_of_mem _ hw)]
    split
    · have : x ≠ n := by rintro rfl; exact h v List.mem_cons_self
      simp [this]
    · rfl
theorem bindC_out {kindOf : Str → Option NameKind} {x : Str} : ∀ {binds : List (Str × Value)} {m : Str → Option Value}, (∀ v, (x, v) ∉ binds) → bindC kindOf binds m x = m x
  | [], _, _ => rfl
  | (n, v) :: r, m, h => by
    unfold bindC
    rw [bindC_out fun w hw => h w (List.mem_cons_of_mem _ hw)]
    split
    · rfl
    · have : x ≠ n := by rintro rfl; exact h v List.mem_cons_self
      simp [this]
theorem bindL_get {kindOf : Str → Option NameKind} {x : Str} {v : Value} : ∀ {P : List Str} {vs : List Value} {i : Nat} {m : Str → Option Value}, P.Nodup → P[i]? = some x → vs[i]? = some v → kindOf x = some .local →
    bindL kindOf (P.zip vs) m x = some v
  | [], _, _, _, _, h, _, _ => by simp at h
  | _ :: _, [], _, _, _, _, h, _ => by simp at h
  | p :: P, w :: vs, 0, m, nd, h1, h2, hk => by
    simp at h1 h2; subst h1; subst h2
    show bindL kindOf ((p, w) :: P.zip vs) m p = _
    unfold bindL
    rw [bindL_out fun v hv => (List.nodup_cons.mp nd).1 (List.of_mem_zip hv).1, if_pos hk]
    simp
  | p :: P, w :: vs, i + 1, m, nd, h1, h2, hk => by
    show bindL kindOf ((p, w) :: P.zip vs) m x = _
    unfold bindL
    exact bindL_get (i := i) (List.nodup_cons.mp nd).2 (by simpa using h1) (by simpa using h2) hk
theorem bindC_get {kindOf : Str → Option NameKind} {x : Str} {v : Value} : ∀ {P : List Str} {vs : List Value} {i : Nat} {m : Str → Option Value}, P.Nodup → P[i]? = some x → vs[i]? = some v → kindOf x ≠ some .local →
    bindC kindOf (P.zip vs) m x = some v
  | [], _, _, _, _, h, _, _ => by simp at h
  | _ :: _, [], _, _, _, _, h, _ => by simp at h
  | p :: P, w :: vs, 0, m, nd, h1, h2, hk => by
    simp at h1 h2; subst h1; subst h2
    show bindC kindOf ((p, w) :: P.zip vs) m p = _
    unfold bindC
    rw [bindC_out fun v hv => (List.nodup_cons.mp nd).1 (List.of_mem_zip hv).1, if_neg hk]
    simp
  | p :: P, w :: vs, i + 1, m, nd, h1, h2, hk => by
    show bindC kindOf ((p, w) :: P.zip vs) m x = _
    unfold bindC
    exact bindC_get (i := i) (List.nodup_cons.mp nd).2 (by simpa using h1) (by simpa using h2) hk

/-- the names' values at the entry -/
def start (N : List Str) (vs : List V) : St := vs.map some ++ List.replicate (N.length - vs.length) none

/-- the context of a def's body, at its entry; an exception leaves the frame, then lies as CX says -/
def cxOf (CX : CXT) (P : Program) (w : World) (K : PySem.W.Frag) (mg : Str → Option Value) (base : Heap) (N : List Str) (qual : Str) (scope : Scope) (f : Addr) (cd : Value) (A : Around) (outer : List Env) (s : Shared) (H : Hp) (E : XK) : Cx where
  prog := P
  w := w
  K := K
  mg := mg
  base := base
  A := A.deeper (envOfC qual scope s.heap.objs.size f cd)
  N := N
  s₀ := s
  H₀ := H
  env := envOfC qual scope s.heap.objs.size f cd
  outer := outer
  stack := envOfC qual scope s.heap.objs.size f cd :: outer
  ex := []
  calm := true
  fn := fun _ => true
  pn := []
  xe := fun e s' => wpAny (model P w) (A.deeper (envOfC qual scope s.heap.objs.size f cd)) (leaving (envOfC qual scope s.heap.objs.size f cd) e) (fun _ s'' => CX outer H s E e s'') (fun e' s'' => CX outer H s E e' s'') s'

theorem cell_has {sc : Scope} {n : Nat} {x : Str} (h : sc.names.lookup x = some .cell) : ∃ c, (cellsFrom n sc.names []).lookup x = some c := by
  have q := PySem.W.cellsFrom_some sc.names n [] (.inl h)
  exact Option.isSome_iff_exists.mp q

theorem inv_start {CX : CXT} {P : Program} {w : World} {K : PySem.W.Frag} {mg : Str → Option Value} {base : Heap} {N ps : List Str} {qual : Str} {scope : Scope} {f : Addr} {cd : Value} {A : Around} {outer : List Env} {s s1 : Shared} {H : Hp} {E : XK} {us : List Value} {vs : List V}
    (S : FnScope N ps scope) (hd : A.handled = none) (e0 : Env0 P w K mg base A outer s H) (hl : vs.length = ps.length) (r : Vals vs us)
    (x : InCallC s s.heap.objs.size (bindL (envOfC qual scope s.heap.objs.size f cd).kindOf (ps.zip us) fun _ => none) (cellsFrom (s.heap.objs.size + 1) scope.names []) (bindC (envOfC qual scope s.heap.objs.size f cd).kindOf (ps.zip us) fun _ => none) s1) :
    Inv (cxOf CX P w K mg base N qual scope f cd A outer s H E) [] (start N vs) H s1 := by
  have hpl : ps.length ≤ N.length := by have := congrArg List.length S.pre; rw [List.length_take] at this; omega
  obtain ⟨h1, tk, rfl, hk⟩ := x.done
  have noA : ∀ b : Addr, b ∉ (cxOf CX P w K mg base N qual scope f cd A outer s H E).ex := fun b z => absurd (show b ∈ ([] : List Addr) from z) (by simp)
  refine ⟨⟨e0.mod, S.kind, rfl, rfl, Nat.le_refl _, fun y z c h1 h2 => ?_, fun y hy => ?_, fun y c _ h => ?_, fun _ => hd, Around.frames_deeper e0.frames, .inr ⟨rfl, rfl⟩, fun b z => absurd z (noA b), e0.bs, e0.bsz, fun b _ _ => noA b, fun b z => absurd z (noA b), e0.funs, e0.frf⟩,
    rfl, e0.bare, Un.kept hk, ⟨_, x.toInCall.ns, fun i y v h1 h2 h3 => ?_⟩, fun y c h => ⟨_, x.cell y c h⟩, e0.hok.fresh (Nat.le_refl _), fun y c h => ?_, fun p hp => absurd (show p ∈ ([] : List (Addr × Obj)) from hp) (by simp), e0.hok.kept hk, ?_⟩
  · exact name_of_addr x.apart (PySem.mem_of_lookup h1) (PySem.mem_of_lookup h2)
  · have hy : scope.names.lookup y = some .cell ∨ scope.names.lookup y = some .free := hy
    rcases hy with hy | hy
    · exact cell_has hy
    · exact absurd rfl (S.nofree _ (PySem.mem_of_lookup hy))
  · exact Nat.le_of_lt (x.above y c (PySem.mem_of_lookup h))
  · have hi : i < vs.length := by
      unfold start at h2
      by_cases hi : i < vs.length
      · exact hi
      · rw [List.getElem?_append_right (by simpa using hi)] at h2
        rw [List.getElem?_replicate] at h2
        split at h2 <;> cases h2
    have ha : vs[i]? = some v := by
      unfold start at h2
      rw [List.getElem?_append_left (by simpa using hi), List.getElem?_map] at h2
      cases e : vs[i]? with
      | none => rw [e] at h2; cases h2
      | some a => rw [e] at h2; cases h2; rfl
    obtain ⟨u, hu, rv⟩ := r.get ha
    have hp : ps[i]? = some y := by
      rw [← S.pre, List.getElem?_take_of_lt (by omega)]; exact h1
    have ndP : ps.Nodup := by rw [← S.pre]; exact S.nd.sublist (List.take_sublist _ _)
    refine ⟨u, rv, ?_⟩
    rcases S.par y (List.mem_of_getElem? hp) with k | k
    · exact .inl ⟨k, bindL_get ndP hp hu k⟩
    · obtain ⟨c, e⟩ := cell_has (n := s.heap.objs.size + 1) k
      refine .inr ⟨.inl k, c, e, ?_⟩
      have q := x.cell y c e
      rw [bindC_get ndP hp hu (by show scope.names.lookup y ≠ _; rw [k]; decide)] at q
      exact q
  · exact e0.hok.fresh (Nat.le_of_lt (x.above y c (PySem.mem_of_lookup h)))
  · unfold start
    show _ = N.length
    rw [List.length_append, List.length_map, List.length_replicate]
    omega

/-- THE RULE: a def (or a method) of the text, by its body. The body's reading t is chosen for each entry; it is run at the parameters' values -/
theorem fn_of {CX : CXT} {P : Program} {w : World} {K : PySem.W.Frag} {mg : Str → Option Value} {base : Heap} {k : Nat} {f : Addr} {name qual : Str} {params : Arguments} {body : List Stmt} {scope : Scope} {dV kV doc pm cdv ct oc : Value} {an od : Option Addr}
    {osl : Array (Option Value)} {N ps : List Str} {sp : Sp} (lk : K.lookup f = some ⟨oc, od, .func (PySem.W.fnOf name qual params body scope dV kV doc pm an cdv ct), osl⟩) (hcd : PySem.W.codeIn K cdv qual = true) (S : FnScope N ps scope)
    (len : ∀ vs H Q E, sp vs H Q E → vs.length = ps.length)
    (hbody : ∀ (A : Around) (outer : List Env) (s : Shared) (H : Hp) (vs : List V) (Q : VK) (E : XK), Room k (A.deeper (envOfC qual scope s.heap.objs.size f cdv)) → sp vs H Q E →
      ∃ t, PSs (cxOf CX P w K mg base N qual scope f cdv A outer s H E) body t ∧ t { nx := fun _ H' => Q .non H', rt := Q } (start N vs) H) :
    FnOk P w K mg base CX (k + 1) f (PySem.W.fnOf name qual params body scope dV kV doc pm an cdv ct) ps sp := by
  refine ⟨len, fun A outer s H args us vs Q E hr e0 hb r hsp => ?_⟩
  have hl := len _ _ _ _ hsp
  have KX : K.In s.heap := e0.mod.kin.keeps fun b o e => (e0.bs b o e).1
  have lim : s.heap.NoLimit := e0.mod.nolimit.keeps fun b o e => (e0.bs b o e).1
  have hkind : ∀ y ∈ ps.zip us, scope.names.lookup y.1 = some .local ∨ (scope.names.lookup y.1 = some .cell ∧ ((cellsFrom (s.heap.objs.size + 1) scope.names []).lookup y.1).isSome = true) := fun ⟨n, v⟩ hy => by
    rcases S.par n (List.of_mem_zip hy).1 with q | q
    · exact .inl q
    · exact .inr ⟨q, PySem.W.cellsFrom_some _ _ _ (.inl q)⟩
  refine codeAny_call_function hr.depth (KX _ _ lk) rfl S.co S.gen rfl (PySem.W.codeRec_of KX hcd) (hb _ _ _ _ ?_)
  refine wpAny_newFunctionEnv_cells S.kind hkind fun env he s1 x => ?_
  subst he
  refine ⟨lim.keeps x.toInCall.keep, codeAny_func ?_⟩
  obtain ⟨t, ht, hq⟩ := hbody A outer s H vs Q E (hr.deeper _) hsp
  have I : Inv (cxOf CX P w K mg base N qual scope f cdv A outer s H E) [] (start N vs) H s1 := inv_start S hr.hd e0 hl r x
  refine wpAny_mono (ht [] s1 (start N vs) H _ I hq) (fun fl s' hs => ?_) fun e s' hs => hs
  have fin : ∀ {σ' : St} {H' : Hp} {v : V} {u : Value}, Inv (cxOf CX P w K mg base N qual scope f cdv A outer s H E) [] σ' H' s' → RelV v u → Q v H' → CE outer P w H s Q u s' :=
    fun {σ' H' v u} J rv q => ⟨v, H', J.os, J.bare, J.base, J.hok, rv, q⟩
  cases fl with
  | ret u =>
    obtain ⟨v, σ', H', J, rv, q⟩ := hs
    exact fin J rv q
  | next =>
    obtain ⟨σ', H', J, q⟩ := hs
    exact fin (v := V.non) (u := Value.none) J rfl q
  | brk =>
    obtain ⟨_, _, _, q⟩ := hs
    exact False.elim q
  | cont =>
    obtain ⟨_, _, _, q⟩ := hs
    exact False.elim q
end L2

namespace L2
open PySem PySem.Spec PyProof.Rows
section
variable {X : Cx} {x : Str} {p pos : Pos} {e : Expr} {es : List Expr} {t : TA} {id T : String} {r : List V → Hp → VK → Prop}

def tCB (r : List V → Hp → VK → Prop) (t : TA) : TE := fun σ H Q => t σ H fun vs H1 => r vs H1 Q
/-- f(e, ..), f a built-in function -/
theorem pe_callB (hc : CallR X (.builtin id) r) (hg : Gl X x) (hm : X.mg x = none) (hv : bootBuiltins x = some (.builtin id)) (ha : PA X (e :: es) t) (hn : x ≠ "__name__" := by decide) (hdb : (x == ("__debug__" : Str)) = false := by decide)
    (he : starEach (e :: es) X.env = (false, eval e X.env) :: starEach es X.env := by rfl) (hpl : (backTo pos (starEach es X.env)).any (·.1) = false := by rfl) : PE X (.Call (.Name x p) (e :: es) [] pos) (tCB r t) := by
  intro pins s σ H Q I h
  refine wpAny_Call_Name_kw (ld_blt I hg hm hv ?_ hn hdb)
  exact PyProof.Rows.callWith_builtin1 (thn (ha pos pins s σ H _ I h) fun us s1 ⟨vs, H1, I1, r1, q1⟩ => hc pins s1 σ H1 vs us Q I1 r1 q1) he hpl
/-- T(e, ..), T a built-in type -/
theorem pe_callTy (hc : CallR X (.type T) r) (hg : Gl X x) (hm : X.mg x = none) (hv : bootBuiltins x = some (.type T)) (ha : PA X (e :: es) t) (hn : x ≠ "__name__" := by decide) (hdb : (x == ("__debug__" : Str)) = false := by decide)
    (he : starEach (e :: es) X.env = (false, eval e X.env) :: starEach es X.env := by rfl) (hpl : (backTo pos (starEach es X.env)).any (·.1) = false := by rfl) : PE X (.Call (.Name x p) (e :: es) [] pos) (tCB r t) := by
  intro pins s σ H Q I h
  refine wpAny_Call_Name_kw (ld_blt I hg hm hv ?_ hn hdb)
  exact PyProof.Rows.callWith_type1 (thn (ha pos pins s σ H _ I h) fun us s1 ⟨vs, H1, I1, r1, q1⟩ => hc pins s1 σ H1 vs us Q I1 r1 q1) he hpl
end
end L2

namespace HT
open PySem PyProof.Rows

/-- t < u of tuples of ints -/
def lexLt : List Int → List Int → Bool
  | [], [] => false
  | [], _ :: _ => true
  | _ :: _, [] => false
  | x :: xs, y :: ys => if x = y then lexLt xs ys else decide (x < y)
section
open PySem.SeqAt
open PySem.AutoSeq1 (wpAny_loadPart')
open PySem.MeetsSeq PySem.MeetsSeq2 PySem.MeetsSeq3

end

section
variable {prog : Program} {w : World} {A : Around} {E : Value → Shared → Prop} {s : Shared}

/-! ### t[a:b], not the whole -/
/-- a slice's bound as a place among n (d where it is left out) -/
def sIx (n d : Nat) : Option Int → Nat
  | none => d
  | some v => if v < 0 then (v + (n : Int)).toNat else min v.toNat n
theorem sIx_none (n d : Nat) : sIx n d none = d := rfl
theorem sIx_nat (n d k : Nat) : sIx n d (some (k : Int)) = min k n := by
  show (if (k : Int) < 0 then ((k : Int) + (n : Int)).toNat else min (k : Int).toNat n) = min k n
  rw [if_neg (by omega), Int.toNat_natCast]
theorem sIx_le (n d : Nat) (hd : d ≤ n) (o : Option Int) : sIx n d o ≤ n := by
  cases o with
  | none => exact hd
  | some v =>
    show (if v < 0 then (v + (n : Int)).toNat else min v.toNat n) ≤ n
    by_cases hv : v < 0
    · rw [if_pos hv]; omega
    · rw [if_neg hv]; exact Nat.min_le_right _ _
theorem clip_eq (v : Int) (n d : Nat) : (if v < 0 then max (v + (n : Int)) 0 else min v (n : Int)) = ((sIx n d (some v) : Nat) : Int) := by
  show (if v < 0 then max (v + (n : Int)) 0 else min v (n : Int)) = (((if v < 0 then (v + (n : Int)).toNat else min v.toNat n) : Nat) : Int)
  by_cases hv : v < 0
  · simp only [if_pos hv]; omega
  · simp only [if_neg hv]; omega
theorem adjust_gen (lo hi : Option Int) (n : Nat) : Builtin.Slice.sliceAdjust lo hi 1 (n : Int) = (((sIx n 0 lo : Nat) : Int), ((sIx n n hi : Nat) : Int)) := by
  have h1 : ¬ ((1 : Int) < 0) := by omega
  unfold Builtin.Slice.sliceAdjust
  simp only [h1, if_false]
  refine Prod.ext ?_ ?_
  · cases lo with
    | none => rfl
    | some v => exact clip_eq v n 0
  · cases hi with
    | none => rfl
    | some v => exact clip_eq v n n
theorem places_gen (i j : Nat) : Builtin.Slice.slicePlaces (i : Int) (j : Int) 1 = j - i := by
  unfold Builtin.Slice.slicePlaces
  have h1 : (1 : Int) > 0 := by omega
  simp only [h1, if_true, Int.ediv_one]
  split <;> omega
theorem slicePart_ {v : Value} {o : Option Int} {Q : Option Int → Shared → Prop} (p : IsPart v o) (h : Q o s) : wpAny (model prog w) A (Builtin.Slice.slicePartIndex v) Q E s := by
  cases p with
  | none => exact slicePart_none h
  | int i t => exact slicePart_int h
theorem sliceApplied_gen {sl : Addr} {vl vu : Value} {lo hi : Option Int} {n : Nat} {Q : Int × Int × Nat → Shared → Prop} (hs : s.heap.IsSliceOf sl vl vu .none) (pl : IsPart vl lo) (pu : IsPart vu hi)
    (h : Q (((sIx n 0 lo : Nat) : Int), 1, sIx n n hi - sIx n 0 lo) s) : wpAny (model prog w) A (Builtin.Slice.sliceApplied (.ref sl) (pure (n : Int))) Q E s := by
  obtain ⟨os, hos, hcs, hds⟩ := id hs
  unfold Builtin.Slice.sliceApplied Builtin.Slice.sliceFields
  refine wpAny_bind (wpAny_bind (wpAny_field hos hds (x := vl) rfl (wpAny_bind (wpAny_field hos hds (x := vu) rfl (wpAny_bind (wpAny_field hos hds (x := .none) rfl (wpAny_pure ?_)))))))
  refine wpAny_bind (slicePart_none ?_)
  show wpAny _ _ (if ((1 : Int) == 0) = true then _ else _) _ _ s
  rw [if_neg (by decide)]
  refine wpAny_bind (slicePart_ pl (wpAny_bind (slicePart_ pu (wpAny_bind (wpAny_pure ?_)))))
  show wpAny _ _ (match Builtin.Slice.sliceAdjust lo hi 1 (n : Int) with | (lo, hi) => pure (lo, (1 : Int), Builtin.Slice.slicePlaces lo hi 1)) _ _ s
  rw [adjust_gen lo hi n]
  show wpAny _ _ (pure (((sIx n 0 lo : Nat) : Int), (1 : Int), Builtin.Slice.slicePlaces ((sIx n 0 lo : Nat) : Int) ((sIx n n hi : Nat) : Int) 1)) _ _ s
  rw [places_gen]
  exact wpAny_pure h
theorem pick_gen (xs : Array Value) (i k : Nat) : ((List.range k).filterMap fun (m : Nat) => xs[((i : Int) + (m : Int) * 1).toNat]?).toArray = ((xs.toList.drop i).take k).toArray := by
  have e : (fun (m : Nat) => xs[((i : Int) + (m : Int) * 1).toNat]?) = fun m => xs[i + m]? := by
    funext m
    have : ((i : Int) + (m : Int) * 1).toNat = i + m := by omega
    rw [this]
  rw [e]
  have := pick_run xs i k
  rw [List.filterMap_map] at this
  have e2 : ((fun x => xs[x]?) ∘ fun x => i + x) = fun m => xs[i + m]? := rfl
  rw [e2] at this
  rw [this]

theorem getItem_tuple_cut {t sl : Addr} {items : Array Value} {vl vu : Value} {lo hi : Option Int} {Q : Value → Shared → Prop} (ht : IsTup s.heap t items) (hs : s.heap.IsSliceOf sl vl vu .none) (pl : IsPart vl lo) (pu : IsPart vu hi)
    (hw : ¬ (sIx items.size 0 lo = 0 ∧ sIx items.size items.size hi = items.size))
    (h : Q (.ref s.heap.objs.size) { s with heap := s.heap.push { cls := .type "tuple", data := .seq ((items.toList.drop (sIx items.size 0 lo)).take (sIx items.size items.size hi - sIx items.size 0 lo)).toArray } })
    (hsz : items.size ≤ sizeLine) : wpAny (model prog w) A (getItem (.ref t) (.ref sl)) Q E s := by
  have htake : sizeOk (.seq ((items.toList.drop (sIx items.size 0 lo)).take (sIx items.size items.size hi - sIx items.size 0 lo)).toArray) := by
    show ((items.toList.drop (sIx items.size 0 lo)).take (sIx items.size items.size hi - sIx items.size 0 lo)).toArray.size ≤ sizeLine
    rw [List.size_toArray, List.length_take, List.length_drop, Array.length_toList]
    omega
  have hj : sIx items.size items.size hi ≤ items.size := sIx_le _ _ (Nat.le_refl _) hi
  obtain ⟨os, hos, hcs, hds⟩ := id hs
  have hTs : s.TypeIs (.ref sl) "slice" := ⟨os, hos, hcs⟩
  unfold getItem
  try with_reducible refine wpAny_holding ?_
  first | refine wpAny_bind (wpAny_pure ?_) | skip
  refine wpAny_bind (wpAny_sequenceKey ht.typeIs (by decide) ?_)
  refine wpAny_bind (wpAny_callSpecial?_slot (name := Str.ofString "__getitem__") ht.typeIs PyProof.Rows.slot_tuple_getitem
    (wpAny_call_entry PyProof.Rows.slot_tuple_getitem ht.typeIs entry_tuple_getitem ?_ (args_tuple_getitem _ _)))
  show wpAny _ _ (Builtin.Tuple.tupleItemsOf (.ref t) >>= _) _ _ s
  refine wpAny_bind (tupleItemsOf_ ht ?_)
  refine wpAny_bind (wpAny_typeOf hTs ?_)
  rw [if_pos (by decide)]
  refine wpAny_bind (sliceApplied_gen hs pl pu ?_)
  have hno : ¬ ((((sIx items.size 0 lo : Nat) : Int) == 0 && (1 : Int) == 1 && (sIx items.size items.size hi - sIx items.size 0 lo) == items.size) = true) := by
    intro q
    rw [Bool.and_eq_true, Bool.and_eq_true] at q
    have q1 : ((sIx items.size 0 lo : Nat) : Int) = 0 := eq_of_beq q.1.1
    have q2 : sIx items.size items.size hi - sIx items.size 0 lo = items.size := eq_of_beq q.2
    exact hw ⟨by omega, by omega⟩
  show wpAny _ _ (if (((sIx items.size 0 lo : Nat) : Int) == 0 && (1 : Int) == 1 && (sIx items.size items.size hi - sIx items.size 0 lo) == items.size) = true then _ else _) _ _ s
  rw [if_neg hno, pick_gen]
  first
    | exact wpAny_bind (m := Builtin.Tuple.tupleExact _) (wpAny_newObj_type (wpAny_pure ⟨_, rfl, wpAny_pure h⟩) htake)
    | exact wpAny_bind (m := Builtin.Tuple.tupleExact _) (wpAny_newObj_type (wpAny_bind (wpAny_pure (wpAny_pure ⟨_, rfl, wpAny_pure h⟩))) htake)
    | exact wpAny_bind (wpAny_bind (m := Builtin.Tuple.tupleExact _) (wpAny_newObj_type (wpAny_pure (wpAny_pure ⟨_, rfl, wpAny_pure h⟩)) htake))
    | exact wpAny_bind (wpAny_bind (m := Builtin.Tuple.tupleExact _) (wpAny_newObj_type (wpAny_pure ⟨_, rfl, wpAny_pure h⟩) htake))
end
end HT

namespace L2
open PySem PySem.Spec PyProof.Rows

/-! ### the parts of a slice -/
abbrev TO := St → Hp → (Option Int → Hp → Prop) → Prop
/-- a slice's part (left out, or an int) -/
def PO (X : Cx) (e : Option Expr) (t : TO) : Prop :=
  ∀ (pins : List (Addr × Obj)) (s : Shared) (σ : St) (H : Hp) (Q : Option Int → Hp → Prop), Inv X pins σ H s → t σ H Q →
    wpAny (model X.prog X.w) X.A (evalPart e X.env) (fun u s' => ∃ o H', Inv X pins σ H' s' ∧ IsPart u o ∧ Q o H') X.xe s
def tNoPart : TO := fun _ H Q => Q none H
def tPart (t : TE) : TO := fun σ H Q => t σ H fun x H1 => ∃ i, x = .int i ∧ Q (some i) H1

theorem intsAre_of {ns : List Int} : ∀ {us : List Value}, Vals (ns.map V.int) us → IntsAre us ns := by
  induction ns with
  | nil => intro us r; rw [List.map_nil] at r; cases r; exact .nil
  | cons n ns ih =>
    intro us r
    rw [List.map_cons] at r
    cases r with
    | cons r1 r2 =>
      obtain ⟨t, e⟩ := r1
      subst e
      exact .cons n t (ih r2)

section
variable {X : Cx} {e : Expr} {te : TE} {lo hi : Option Expr} {tl th : TO} {pos p2 : Pos}

theorem po_none : PO X none tNoPart := by
  intro pins s σ H Q I h
  rw [evalPart_none]
  exact wpAny_pure ⟨none, H, I, .none, h⟩
theorem po_some (h : PE X e te) : PO X (some e) (tPart te) := by
  intro pins s σ H Q I hw
  rw [evalPart_some]
  refine thn (h pins s σ H _ I hw) fun u s1 ⟨x, H1, I1, r1, q1⟩ => ?_
  obtain ⟨i, rfl, q⟩ := q1
  obtain ⟨t, rfl⟩ := r1
  exact ⟨some i, H1, I1, .int i t, q⟩

/-- what a slice of a value is, by values: the slice object stands at sl -/
def SlR (X : Cx) (r : V → Option Int → Option Int → Hp → VK → Prop) : Prop :=
  ∀ (pins : List (Addr × Obj)) (s : Shared) (σ : St) (H : Hp) (x : V) (v vl vu : Value) (lo hi : Option Int) (sl : Addr) (Q : VK), Inv X pins σ H s → RelV x v → s.heap.IsSliceOf sl vl vu .none → IsPart vl lo → IsPart vu hi → r x lo hi H Q →
    ∃ T id, typeLookup (.type T) "__getitem__" = pure (some (.builtin id)) ∧ s.TypeIs v T ∧ wpAny (model X.prog X.w) X.A (getItem v (.ref sl)) (EP X pins σ Q) X.xe s
def tSl (r : V → Option Int → Option Int → Hp → VK → Prop) (te : TE) (tl th : TO) : TE := fun σ H Q => te σ H fun x H1 => tl σ H1 fun l H2 => th σ H2 fun u H3 => r x l u H3 Q
/-- a[lo:hi], any a -/
theorem pe_slice {r : V → Option Int → Option Int → Hp → VK → Prop} (hr : SlR X r) (he : PE X e te) (hl : PO X lo tl) (hu : PO X hi th) : PE X (.Subscript e (.Slice lo hi none p2) pos) (tSl r te tl th) := by
  intro pins s σ H Q I h
  refine Subscript_ (thn (he pins s σ H _ I h) fun v s1 ⟨x, H1, I1, r1, q1⟩ => ?_)
  refine wpAny_Slice (thn (hl pins s1 σ H1 _ I1 q1) fun vl s2 ⟨l, H2, I2, pl, q2⟩ => thn (hu pins s2 σ H2 _ I2 q2) fun vu s3 ⟨u, H3, I3, pu, q3⟩ => ?_)
  rw [evalPart_none]
  refine wpAny_pure ?_
  have I4 : Inv X pins σ H3 { s3 with heap := s3.heap.push { cls := .type "slice", data := .fields #[vl, vu, .none] } } := I3.kept (t' := s3.toks) fun b ob q => Heap.get?_push_of_some _ q
  obtain ⟨T, id, hT, ht, hg⟩ := hr pins { s3 with heap := s3.heap.push { cls := .type "slice", data := .fields #[vl, vu, .none] } } σ H3 x v vl vu l u s3.heap.objs.size Q I4 r1 (Heap.IsSliceOf.new ..) pl pu q3
  show wpAny (model X.prog X.w) X.A (subscriptTail e (.Slice lo hi none p2) v (.ref s3.heap.objs.size)) (EP X pins σ Q) X.xe { s3 with heap := s3.heap.push { cls := .type "slice", data := .fields #[vl, vu, .none] } }
  exact tail_any (ops := [.ref s3.heap.objs.size, v]) ht hT hg (by with_unfolding_all rfl)

/-- the items of xs[lo:hi] -/
def cutV (xs : List V) (lo hi : Option Int) : List V := (xs.drop (HT.sIx xs.length 0 lo)).take (HT.sIx xs.length xs.length hi - HT.sIx xs.length 0 lo)
theorem cutV_length (xs : List V) (lo hi : Option Int) : (cutV xs lo hi).length ≤ xs.length := by
  unfold cutV
  rw [List.length_take, List.length_drop]
  omega
/-- t[lo:hi], not the whole of it (the whole would be t itself) -/
def rSlT (K : PySem.W.Frag) : V → Option Int → Option Int → Hp → VK → Prop := fun x lo hi H Q => ∃ a xs, x = .ref a ∧ SqT K H a xs ∧
  ¬ (HT.sIx xs.length 0 lo = 0 ∧ HT.sIx xs.length xs.length hi = xs.length) ∧ ∀ p, H p = none → Q (.ref p) (upd H p (.tup (cutV xs lo hi)))
theorem sl_tup : SlR X (rSlT X.K) := by
  intro pins s σ H x v vl vu lo hi sl Q I rx hs pl pu h
  obtain ⟨a, xs, rfl, hx, hw, q⟩ := h
  cases rx
  obtain ⟨its, r, ht, hz⟩ := I.tuple hx
  have hlen : its.toArray.size = xs.length := by rw [List.size_toArray]; exact r.length.symm
  refine ⟨"tuple", _, PyProof.Rows.slot_tuple_getitem.lookup, ht.typeIs, ?_⟩
  refine HT.getItem_tuple_cut ht hs pl pu (by rw [hlen]; exact hw) ?_ (by rw [hlen]; exact hz)
  rw [hlen]
  refine ⟨.ref s.heap.objs.size, _, I.laid (t' := s.toks) (o := .tup (cutV xs lo hi)) (fun b ob q => Heap.get?_push_of_some _ q) (Nat.le_refl _) ?_, rfl, q _ (I.hok.fresh (Nat.le_refl _))⟩
  exact ⟨Nat.le_trans (cutV_length xs lo hi) hz, _, (r.drop (HT.sIx xs.length 0 lo)).take (HT.sIx xs.length xs.length hi - HT.sIx xs.length 0 lo), IsTup.new _ _⟩

/-! ### t < u, t + u -/
def rLtT (K : PySem.W.Frag) : R2 := fun x y H Q => ∃ a b ns ms, x = .ref a ∧ y = .ref b ∧ SqT K H a (ns.map V.int) ∧ SqT K H b (ms.map V.int) ∧ Q (.bl (HT.lexLt ns ms)) H
/-- t + u, t not empty: u empty gives t itself -/
def rCatT (K : PySem.W.Frag) : R2 := fun x y H Q => ∃ a b xs ys, x = .ref a ∧ y = .ref b ∧ SqT K H a xs ∧ SqT K H b ys ∧ xs ≠ [] ∧ xs.length + ys.length ≤ sizeLine ∧
  (ys = [] → Q (.ref a) H) ∧ (ys ≠ [] → ∀ p, H p = none → Q (.ref p) (upd H p (.tup (xs ++ ys))))
end
end L2

namespace L2
open PySem PySem.Spec PyProof.Rows

/-! ### places -/
/-- the place that an index of any sign means -/
def ixN (n : Nat) (i : Int) : Option Nat := if 0 ≤ i then (if i < n then some i.toNat else none) else if -(n : Int) ≤ i then some (i + n).toNat else none
def atI {α : Type} (xs : List α) (i : Int) : Option α := (ixN xs.length i).bind fun j => xs[j]?
theorem ixN_seq {n : Nat} {i : Int} {j : Nat} (h : ixN n i = some j) : seqIndex? i n = some j ∧ j < n ∧ -(n : Int) ≤ i ∧ i < n := by
  unfold ixN at h
  by_cases h0 : 0 ≤ i
  · rw [if_pos h0] at h
    by_cases h1 : i < n
    · rw [if_pos h1] at h
      have e : i.toNat = j := Option.some.inj h
      exact ⟨by rw [seqIndex_of h0 h1, e], by omega, by omega, h1⟩
    · rw [if_neg h1] at h; cases h
  · rw [if_neg h0] at h
    by_cases h1 : -(n : Int) ≤ i
    · rw [if_pos h1] at h
      have e : (i + n).toNat = j := Option.some.inj h
      exact ⟨by rw [seqIndex_neg (by omega) h1, e], by omega, h1, by omega⟩
    · rw [if_neg h1] at h; cases h
theorem atI_get {α : Type} {xs : List α} {i : Int} {v : α} (h : atI xs i = some v) : ∃ j, seqIndex? i xs.length = some j ∧ xs[j]? = some v ∧ j < xs.length ∧ -(xs.length : Int) ≤ i ∧ i < xs.length := by
  unfold atI at h
  cases e : ixN xs.length i with
  | none => rw [e] at h; cases h
  | some j =>
    rw [e] at h
    obtain ⟨h1, h2, h3, h4⟩ := ixN_seq e
    exact ⟨j, h1, h, h2, h3, h4⟩
theorem atI_nat {α : Type} {xs : List α} {j : Nat} {v : α} (h : xs[j]? = some v) : atI xs (j : Int) = some v := by
  have hj : j < xs.length := (List.getElem?_eq_some_iff.mp h).1
  have e : ixN xs.length (j : Int) = some j := by
    unfold ixN
    rw [if_pos (by omega), if_pos (by omega)]; simp
  unfold atI; rw [e]; exact h
/-! ### what may be subscripted -/
/-- what stands as an index of a plain subscript -/
def PlainIx (b : Expr) : Prop := ∀ o i, subscripted b false o i = operate [o, i] (getItem o i)
/-- a subscript by values -/
def IxR (X : Cx) (r : R2) : Prop :=
  ∀ (value slice : Expr) (pins : List (Addr × Obj)) (s : Shared) (σ : St) (H : Hp) (x y : V) (v u : Value) (Q : VK), Inv X pins σ H s → RelV x v → RelV y u → r x y H Q →
    subscripted slice false v u = operate [v, u] (getItem v u) → wpAny (model X.prog X.w) X.A (subscriptTail value slice v u) (EP X pins σ Q) X.xe s
/-- a call of a builtin's method by values: the receiver, the arguments -/
def MtR (X : Cx) (id : String) (r : V → List V → Hp → VK → Prop) : Prop :=
  ∀ (pins : List (Addr × Obj)) (s : Shared) (σ : St) (H : Hp) (x : V) (xs : List V) (v : Value) (us : List Value) (Q : VK), Inv X pins σ H s → RelV x v → Vals xs us → r x xs H Q →
    wpAny (model X.prog X.w) X.A (call (.builtin id) (v :: us)) (EP X pins σ Q) X.xe s
section
variable {X : Cx} {a b : Expr} {ta tb : TE} {pos : Pos}
/-- a[b] -/
theorem pe_ix {r : R2} (hr : IxR X r) (ha : PE X a ta) (hb : PE X b tb) (hs : PlainIx b) : PE X (.Subscript a b pos) (tOp r ta tb) := by
  intro pins s σ H Q I h
  exact Subscript_ (binT ha hb I h fun v u s2 x y H2 I2 rx ry q => hr a b pins s2 σ H2 x y v u Q I2 rx ry q (hs _ _))

def rIxL (K : PySem.W.Frag) : R2 := fun x y H Q => ∃ p xs i v, x = .ref p ∧ y = .int i ∧ SqL K H p xs ∧ atI xs i = some v ∧ Q v H
def rIxT (K : PySem.W.Frag) : R2 := fun x y H Q => ∃ p xs i v, x = .ref p ∧ y = .int i ∧ SqT K H p xs ∧ atI xs i = some v ∧ Q v H
def rIxS : R2 := fun x y H Q => ∃ z i c, x = .str z ∧ y = .int i ∧ z.length ≤ sizeLine ∧ atI z.cps.toList i = some c ∧ Q (.str ⟨#[c]⟩) H
theorem ix_list : IxR X (rIxL X.K) := by
  intro value slice pins s σ H x y v u Q I rx ry h hs
  obtain ⟨p, xs, i, z, rfl, rfl, hq, he, q⟩ := h
  cases rx
  obtain ⟨t, rfl⟩ := ry
  obtain ⟨its, r, pl, hz⟩ := I.list hq
  obtain ⟨j, h1, h2, h3, h4, h5⟩ := atI_get he
  obtain ⟨w, ew, rw'⟩ := r.get h2
  have hl := r.length
  have hn := line63
  have fin : EP X pins σ Q w s := ⟨z, H, I, rw', q⟩
  by_cases h0 : 0 ≤ i
  · have hj : i.toNat = j := by
      rw [seqIndex_of h0 h5] at h1
      exact Option.some.inj h1
    exact item_listR pl.isList h0 (by omega) (by rw [hj]; simpa using ew) fin hs
  · have hj : (i + (its.toArray.size : Int)).toNat = j := by
      rw [seqIndex_neg (by omega) h4] at h1
      rw [List.size_toArray, ← hl]
      exact Option.some.inj h1
    exact subscriptTail_builtinR (x := w) pl.isList.typeIs slot_list_getitem.lookup
      (wpAny_getItem_list_neg (Q := fun r s' => r = w ∧ EP X pins σ Q r s') pl.isList (by omega) (by rw [List.size_toArray] <;> omega) (by omega) (by rw [hj]; simpa using ew) ⟨rfl, fin⟩) hs
theorem ix_tup : IxR X (rIxT X.K) := by
  intro value slice pins s σ H x y v u Q I rx ry h hs
  obtain ⟨p, xs, i, z, rfl, rfl, hq, he, q⟩ := h
  cases rx
  obtain ⟨t, rfl⟩ := ry
  obtain ⟨its, r, pl, hz⟩ := I.tuple hq
  obtain ⟨j, h1, h2, h3, h4, h5⟩ := atI_get he
  obtain ⟨w, ew, rw'⟩ := r.get h2
  have hl := r.length
  have hn := line63
  have fin : EP X pins σ Q w s := ⟨z, H, I, rw', q⟩
  exact subscriptTail_builtinR (x := w) pl.typeIs slot_tuple_getitem.lookup
    (getItem_tuple (j := j) (Q := fun r s' => r = w ∧ EP X pins σ Q r s') pl (by omega) (by omega) (by rw [List.size_toArray, ← hl]; exact h1) (by simpa using ew) ⟨rfl, fin⟩) hs
/-- list, tuple or str -/
def rIx (K : PySem.W.Frag) : R2 := fun x y H Q => rIxL K x y H Q ∨ rIxT K x y H Q ∨ rIxS x y H Q
/-! ### xs[i] = v, any sign -/
/-- the list's object behind a store -/
theorem mapSeq_set (its : List Value) (n j : Nat) (u : Value) : Obj.mapSeq (·.setIfInBounds j u) { cls := .type "list", data := .seq its.toArray n } = { cls := .type "list", data := .seq (its.set j u).toArray n } := by
  simp [Obj.mapSeq]
theorem Inv.lst {pins : List (Addr × Obj)} {σ : St} {H : Hp} {s : Shared} {p : Addr} {xs : List V} (I : Inv X pins σ H s) (h : H p = some (.lst xs)) :
    ∃ (its : List Value) (n : Nat), Vals xs its ∧ s.heap.get? p = some { cls := .type "list", data := .seq its.toArray n } ∧ xs.length ≤ sizeLine := by
  obtain ⟨z, its, n, r, e⟩ := I.hok p _ h
  exact ⟨its, n, r, e, z⟩
/-- the list at p is written by an update of its object -/
theorem Inv.lstUpd {pins : List (Addr × Obj)} {σ : St} {H : Hp} {s : Shared} {p : Addr} {xs ys : List V} {its its' : List Value} {n n' : Nat} {f : Obj → Obj} (I : Inv X pins σ H s) (h : H p = some (.lst xs))
    (ho : s.heap.get? p = some { cls := .type "list", data := .seq its.toArray n }) (hf : f { cls := .type "list", data := .seq its.toArray n } = { cls := .type "list", data := .seq its'.toArray n' }) (r : Vals ys its') (hz : ys.length ≤ sizeLine) (t : Nat) :
    Inv X pins σ (upd H p (.lst ys)) { s with heap := s.heap.update p f, toks := t } := by
  have e : (s.heap.update p f).get? p = some { cls := .type "list", data := .seq its'.toArray n' } := by
    rw [Heap.get?_update_self f ho (by rw [hf] <;> rfl), hf]
  refine I.write (x := p) (e := p) (by rw [h]; trivial) (.inl rfl) (fun b u hb q => (Heap.get?_update_other _ _ (Ne.symm hb)).trans q) ⟨_, e⟩ ?_
  exact ⟨hz, its', n', r, e⟩
def rSetL : V → V → V → Hp → (Hp → Prop) → Prop := fun o i v H Q => ∃ p xs k j, o = .ref p ∧ i = .int k ∧ H p = some (.lst xs) ∧ ixN xs.length k = some j ∧ Q (upd H p (.lst (xs.set j v)))
theorem set_list : PSet X rSetL := by
  intro pins s σ H o i v ov iv u Q I ro ri rv h
  obtain ⟨p, xs, k, j, rfl, rfl, hp, hj, q⟩ := h
  cases ro
  obtain ⟨t, rfl⟩ := ri
  obtain ⟨its, n, r, ho, hz⟩ := I.lst hp
  obtain ⟨h1, h2, h3, h4⟩ := ixN_seq hj
  have hl := r.length
  have hn := line63
  have I' : Inv X pins σ (upd H p (.lst (xs.set j v))) { s with heap := s.heap.update p (Obj.mapSeq (·.setIfInBounds j u)) } :=
    I.lstUpd hp ho (mapSeq_set its n j u) (r.set rv j) (by rw [List.length_set]; exact hz) s.toks
  by_cases h0 : 0 ≤ k
  · have hk : k.toNat = j := by
      rw [seqIndex_of h0 h4] at h1
      exact Option.some.inj h1
    exact PySem.W.ki_setAt ho h0 (by omega) (by rw [List.size_toArray, ← hl]; exact h4) (by rw [hk]; exact ⟨_, I', q⟩)
  · have hk : (k + (its.toArray.size : Int)).toNat = j := by
      rw [seqIndex_neg (by omega) h3] at h1
      rw [List.size_toArray, ← hl]
      exact Option.some.inj h1
    exact PySem.W.ki_setBack ho (by omega) (by rw [List.size_toArray, ← hl]; exact h3) (by omega) (by rw [hk]; exact ⟨_, I', q⟩)

/-! ### slices -/
theorem slice_bounds (lo hi : Option Int) (n : Nat) : (sliceBounds lo hi none n).1 = ((HT.sIx n 0 lo : Nat) : Int) ∧ (sliceBounds lo hi none n).2.1 = ((HT.sIx n n hi : Nat) : Int) ∧ (sliceBounds lo hi none n).2.2 = 1 := by
  refine ⟨?_, ?_, rfl⟩
  · cases lo with
    | none => simp [sliceBounds, HT.sIx]
    | some i =>
      simp only [sliceBounds, HT.sIx, Option.getD_none, show (1 : Int) > 0 by decide, if_true]
      by_cases h : i < 0
      · simp only [h, if_true] <;> omega
      · simp only [h, if_false] <;> omega
  · cases hi with
    | none => simp [sliceBounds, HT.sIx]
    | some i =>
      simp only [sliceBounds, HT.sIx, Option.getD_none, show (1 : Int) > 0 by decide, if_true]
      by_cases h : i < 0
      · simp only [h, if_true] <;> omega
      · simp only [h, if_false] <;> omega
theorem slicePick_cut (its : List Value) (lo hi : Option Int) : slicePick its.toArray lo hi none = ((its.drop (HT.sIx its.length 0 lo)).take (HT.sIx its.length its.length hi - HT.sIx its.length 0 lo)).toArray := by
  obtain ⟨h1, h2, h3⟩ := slice_bounds lo hi its.toArray.size
  unfold slicePick
  rw [h1, h2, h3]
  simp only [sliceRange_one, pick_run, List.size_toArray] <;> rfl
/-- xs[lo:hi] of a list: a new list -/
def rSlL (K : PySem.W.Frag) : V → Option Int → Option Int → Hp → VK → Prop := fun x lo hi H Q => ∃ a xs, x = .ref a ∧ SqL K H a xs ∧ ∀ p, H p = none → Q (.ref p) (upd H p (.lst (cutV xs lo hi)))
theorem sl_list : SlR X (rSlL X.K) := by
  intro pins s σ H x v vl vu lo hi sl Q I rx hs pl pu h
  obtain ⟨a, xs, rfl, hx, q⟩ := h
  cases rx
  obtain ⟨its, r, ht, hz⟩ := I.list hx
  have hlen := r.length
  refine ⟨"list", _, slot_list_getitem.lookup, ht.isList.typeIs, ?_⟩
  refine wpAny_getItem_list_slice ht.isList hs pl pu .none (by simp) ?_ (by rw [List.size_toArray] <;> omega)
  rw [slicePick_cut, ← hlen]
  refine ⟨.ref s.heap.objs.size, _, I.laid (t' := s.toks) (o := .lst (cutV xs lo hi)) (fun b ob q => Heap.get?_push_of_some _ q) (Nat.le_refl _) ?_, rfl, q _ (I.hok.fresh (Nat.le_refl _))⟩
  exact ⟨Nat.le_trans (cutV_length xs lo hi) hz, _, 0, (r.drop (HT.sIx xs.length 0 lo)).take (HT.sIx xs.length xs.length hi - HT.sIx xs.length 0 lo), Heap.get?_push_size _ rfl⟩

/-! ### in, not in: flat items -/
def flatV : V → Bool
  | .non => true
  | .bl _ => true
  | .int _ => true
  | .str _ => true
  | _ => false
/-- == of flat values -/
def eqV : V → V → Bool
  | .non, .non => true
  | .bl a, .bl b => a == b
  | .bl a, .int b => (if a then 1 else 0) == b
  | .int a, .bl b => a == (if b then 1 else 0)
  | .int a, .int b => a == b
  | .str a, .str b => a == b
  | _, _ => false
theorem eqAt_V {A : Around} {s : Shared} {y x : V} {u v : Value} (ry : RelV y u) (rx : RelV x v) (fy : flatV y = true) (fx : flatV x = true) : SeqAt.EqAt A s u v (eqV y x) := by
  cases y with
  | non =>
    cases ry
    cases x with
    | non => cases rx; exact SeqAt.EqAt.same _
    | bl b => cases rx; exact SeqAt.EqAt.none_bool b
    | int b => obtain ⟨t, rfl⟩ := rx; exact SeqAt.EqAt.none_int b t
    | str b => obtain ⟨t, rfl⟩ := rx; exact SeqAt.EqAt.none_str b t
    | _ => exact absurd (show false = true from fx) Bool.false_ne_true
  | bl a =>
    cases ry
    cases x with
    | non => cases rx; exact SeqAt.EqAt.bool_none a
    | bl b => cases rx; exact SeqAt.EqAt.bool_bool a b
    | int b => obtain ⟨t, rfl⟩ := rx; exact SeqAt.EqAt.bool_int a b t
    | str b => obtain ⟨t, rfl⟩ := rx; exact SeqAt.EqAt.bool_str a b t
    | _ => exact absurd (show false = true from fx) Bool.false_ne_true
  | int a =>
    obtain ⟨t', rfl⟩ := ry
    cases x with
    | non => cases rx; exact SeqAt.EqAt.int_none a t'
    | bl b => cases rx; exact SeqAt.EqAt.int_bool a t' b
    | int b => obtain ⟨t, rfl⟩ := rx; exact SeqAt.EqAt.int_int a t' b t
    | str b => obtain ⟨t, rfl⟩ := rx; exact SeqAt.EqAt.int_str a t' b t
    | _ => exact absurd (show false = true from fx) Bool.false_ne_true
  | str a =>
    obtain ⟨t', rfl⟩ := ry
    cases x with
    | non => cases rx; exact SeqAt.EqAt.str_none a t'
    | bl b => cases rx; exact SeqAt.EqAt.str_bool a t' b
    | int b => obtain ⟨t, rfl⟩ := rx; exact SeqAt.EqAt.str_int a t' b t
    | str b => obtain ⟨t, rfl⟩ := rx; exact SeqAt.EqAt.str_str a t' b t
    | _ => exact absurd (show false = true from fx) Bool.false_ne_true
  | _ => exact absurd (show false = true from fy) Bool.false_ne_true
/-- the items' answers, read off the values (a value's own answer does not lean on its token) -/
def eqU (x : V) (u : Value) : Bool := match u with
  | .none => eqV .non x
  | .bool b => eqV (.bl b) x
  | .int i _ => eqV (.int i) x
  | .str z _ => eqV (.str z) x
  | _ => false
theorem eqU_of {x y : V} {u : Value} (r : RelV y u) (f : flatV y = true) : eqU x u = eqV y x := by
  cases y with
  | non => cases r; rfl
  | bl b => cases r; rfl
  | int i => obtain ⟨t, rfl⟩ := r; rfl
  | str z => obtain ⟨t, rfl⟩ := r; rfl
  | _ => exact absurd (show false = true from f) Bool.false_ne_true
theorem any_eqU {x : V} : ∀ {xs : List V} {us : List Value}, Vals xs us → xs.all flatV = true → us.any (eqU x) = xs.any fun y => eqV y x
  | _, _, .nil, _ => rfl
  | y :: xs, u :: us, .cons r t, f => by
    rw [List.all_cons, Bool.and_eq_true] at f
    rw [List.any_cons, List.any_cons, eqU_of r f.1, any_eqU t f.2]
theorem mem_eqAt {A : Around} {s : Shared} {x : V} {v : Value} (rx : RelV x v) (fx : flatV x = true) : ∀ {xs : List V} {us : List Value}, Vals xs us → xs.all flatV = true → ∀ u ∈ us, SeqAt.EqAt A s u v (eqU x u)
  | _, _, .nil, _ => fun u hu => by cases hu
  | y :: xs, u :: us, .cons r t, f => fun u' hu => by
    rw [List.all_cons, Bool.and_eq_true] at f
    rcases List.mem_cons.mp hu with rfl | hu
    · rw [eqU_of r f.1]; exact eqAt_V r rx f.1 fx
    · exact mem_eqAt rx fx t f.2 u' hu
def inV (x : V) (xs : List V) : Bool := xs.any fun y => eqV y x
/-- x in a list or tuple of flat items -/
def rIn (K : PySem.W.Frag) (neg : Bool) : R2 := fun x y H Q => ∃ p xs, y = .ref p ∧ (SqL K H p xs ∨ SqT K H p xs) ∧ flatV x = true ∧ xs.all flatV = true ∧ Q (.bl (if neg then !inV x xs else inV x xs)) H
theorem op_in_seq : OpR X (compareOp .In) (rIn X.K false) := by
  intro pins s σ H x y v u Q I rx ry h
  obtain ⟨p, xs, rfl, hq, fx, fs, q⟩ := h
  cases ry
  rcases hq with hq | hq
  · obtain ⟨its, r, pl, hz⟩ := I.list hq
    refine SeqAt.in_listAt (eqU x) pl.isList (fun w hw => mem_eqAt rx fx r fs w (by simpa using hw)) ⟨.bl _, H, I, rfl, ?_⟩
    rw [show its.toArray.any (eqU x) = its.any (eqU x) by simp, any_eqU r fs]
    exact q
  · obtain ⟨its, r, pl, hz⟩ := I.tuple hq
    refine SeqAt.in_tupleAt (eqU x) pl (fun w hw => mem_eqAt rx fx r fs w (by simpa using hw)) ⟨.bl _, H, I, rfl, ?_⟩
    rw [show its.toArray.any (eqU x) = its.any (eqU x) by simp, any_eqU r fs]
    exact q
/-! ### len, list(x), tuple(x) of any list or tuple that is read -/
theorem call_len_seq : CallR X (.builtin "len") (fun xs H Q => ∃ p ys, xs = [.ref p] ∧ (SqL X.K H p ys ∨ SqT X.K H p ys) ∧ Q (.int ys.length) H) := by
  intro pins s σ H xs us Q I r h
  obtain ⟨p, ys, rfl, hq, q⟩ := h
  obtain ⟨u, rfl, rx⟩ := vals1 r
  cases rx
  have hn := line63
  rcases hq with hq | hq
  · obtain ⟨its, r', pl, hz⟩ := I.list hq
    have hlen := r'.length
    exact Calls.call_len_list pl.isList (by simp only [List.size_toArray] <;> omega) ⟨.int ys.length, H, I.tok _, ⟨s.toks + 1, by rw [List.size_toArray, hlen]⟩, q⟩
  · obtain ⟨its, r', pl, hz⟩ := I.tuple hq
    have hlen := r'.length
    exact len_tuple pl (by simp only [List.size_toArray] <;> omega) ⟨.int ys.length, H, I.tok _, ⟨s.toks + 1, by rw [List.size_toArray, hlen]⟩, q⟩
theorem call_list_of : CallR X (.type "list") (fun xs H Q => ∃ p ys, xs = [.ref p] ∧ (SqL X.K H p ys ∨ SqT X.K H p ys) ∧ ∀ l, H l = none → Q (.ref l) (upd H l (.lst ys))) := by
  intro pins s σ H xs us Q I r h
  obtain ⟨p, ys, rfl, hq, q⟩ := h
  obtain ⟨u, rfl, rx⟩ := vals1 r
  cases rx
  have fin : ∀ (its : List Value), Vals ys its → ys.length ≤ sizeLine → ∀ (h' : Heap) (c' : Nat), (∀ b o', s.heap.get? b = some o' → h'.get? b = some o') →
      h'.get? s.heap.objs.size = some { cls := .type "list", dict := none, data := .seq its.toArray c', slots := #[] } → EP X pins σ Q (.ref s.heap.objs.size) { s with heap := h' } := fun its r' hz h' c' kp e =>
    ⟨.ref s.heap.objs.size, _, I.laid (t' := s.toks) kp (Nat.le_refl _) (show ObjOk X.prog X.w _ h' _ (.lst ys) from ⟨hz, its, c', r', e⟩), rfl, q _ (I.hok.fresh (Nat.le_refl _))⟩
  rcases hq with hq | hq
  · obtain ⟨its, r', pl, hz⟩ := I.list hq
    have hlen := r'.length
    obtain ⟨o, ho, hc, n, hd⟩ := pl.isList
    exact call_list_seq p (.inl rfl) ho hc hd (fun h' c' kp e => fin its r' hz h' c' kp e) (by simp only [List.size_toArray] <;> omega)
  · obtain ⟨its, r', pl, hz⟩ := I.tuple hq
    have hlen := r'.length
    obtain ⟨o, ho, hc, n, hd⟩ := pl
    exact call_list_seq p (.inr rfl) ho hc hd (fun h' c' kp e => fin its r' hz h' c' kp e) (by simp only [List.size_toArray] <;> omega)
/-! ### the call of a builtin's method: o.m(..) -/
/-- the value is of that builtin type -/
def tyV (K : PySem.W.Frag) (T : String) (x : V) (H : Hp) : Prop := match x with
  | .str _ => T = "str"
  | .int _ => T = "int"
  | .ref p => (T = "list" ∧ ∃ xs, SqL K H p xs) ∨ (T = "tuple" ∧ ∃ o, K.lookup p = some o ∧ o.cls = .type "tuple" ∧ o.dict = none) ∨
      (T = "dict" ∧ ((∃ kvs, H p = some (.dK kvs)) ∨ ∃ kvs, H p = some (.dT kvs))) ∨ (T = "set" ∧ ∃ S n, H p = some (.set S n))
  | _ => False
theorem tyV_is {pins : List (Addr × Obj)} {σ : St} {H : Hp} {s : Shared} {T : String} {x : V} {v : Value} (I : Inv X pins σ H s) (r : RelV x v) (ty : tyV X.K T x H) :
    s.TypeIs v T ∧ ∀ a, v = .ref a → ∃ ob, s.heap.get? a = some ob ∧ ob.dict = none := by
  cases x with
  | str z =>
    obtain ⟨t, rfl⟩ := r
    cases (show T = "str" from ty)
    exact ⟨typeIs_str s z t, fun _ e => nomatch e⟩
  | int i =>
    obtain ⟨t, rfl⟩ := r
    cases (show T = "int" from ty)
    exact ⟨typeIs_int s i t, fun _ e => nomatch e⟩
  | ref p =>
    cases r
    rcases ty with ⟨rfl, xs, hq⟩ | ⟨rfl, o, hk, hc, hd⟩ | ⟨rfl, hk⟩ | ⟨rfl, S, n, hk⟩
    · obtain ⟨its, _, pl, _⟩ := I.list hq
      refine ⟨pl.isList.typeIs, fun a e => ?_⟩
      cases e
      obtain ⟨o, n, e, c, hd, _⟩ := pl
      exact ⟨o, e, hd⟩
    · refine ⟨⟨o, I.kIn p o hk, hc⟩, fun a e => ?_⟩
      cases e
      exact ⟨o, I.kIn _ o hk, hd⟩
    · have z : ∃ o, s.heap.get? p = some o ∧ o.ExactDict := by
        rcases hk with ⟨kvs, hk⟩ | ⟨kvs, hk⟩
        · obtain ⟨_, _, _, _, o, _, _, e, ex, _⟩ := I.hok p _ hk
          exact ⟨o, e, ex⟩
        · obtain ⟨_, _, _, _, o, _, _, e, ex, _⟩ := I.hok p _ hk
          exact ⟨o, e, ex⟩
      obtain ⟨o, e, ex⟩ := z
      refine ⟨⟨o, e, ex.1⟩, fun a e2 => ?_⟩
      cases e2
      exact ⟨o, e, ex.2.1⟩
    · obtain ⟨o, _, _, _, e, ex, _⟩ := I.hok p _ hk
      refine ⟨⟨o, e, ex.1⟩, fun a e2 => ?_⟩
      cases e2
      exact ⟨o, e, ex.2.1⟩
  | _ => exact False.elim ty
def tBM0 (K : PySem.W.Frag) (T : String) (r : V → List V → Hp → VK → Prop) (to : TE) : TE := fun σ H Q => to σ H fun x H1 => tyV K T x H1 ∧ r x [] H1 Q
def tBM (K : PySem.W.Frag) (T : String) (r : V → List V → Hp → VK → Prop) (to : TE) (t : TA) : TE := fun σ H Q => to σ H fun x H1 => tyV K T x H1 ∧ t σ H1 fun xs H2 => r x xs H2 Q
variable {o e : Expr} {es : List Expr} {to : TE} {t : TA} {name : Str} {apos cpos : Pos} {T id : String} {r : V → List V → Hp → VK → Prop}
theorem pe_bm (pa : PlainAttrs T) (slot : Slot T name id) (hty : typeOf (.builtin id) = pure (.type "method_descriptor")) (hm : MtR X id r) (ho : PE X o to) (ha : PA X (e :: es) t)
    (hbase : attributeBase o name X.env (eval o X.env) = eval o X.env := by rfl)
    (hfew : ((backTo cpos (starEach (e :: es) X.env)).all (fun x => !x.1) && (backToKw cpos (keywordEach [] X.env)).all (fun x => x.1.isSome)
      && decide ((e :: es).length + ([] : List Keyword).length + (if ([] : List Keyword).isEmpty then 0 else 1) < 30)) = true := by rfl)
    (hline : (apos.endLine == cpos.line) = true := by rfl) (hs : starEach (e :: es) X.env = (false, eval e X.env) :: starEach es X.env := by rfl) (hplain : (backTo cpos (starEach es X.env)).any (·.1) = false := by rfl) :
    PE X (.Call (.Attribute o name apos) (e :: es) [] cpos) (tBM X.K T r to t) := by
  intro pins s σ H Q I h
  refine wpAny_Call_method_late hbase hfew hline rfl (thn (ho pins s σ H _ I h) fun v s1 ⟨x, H1, I1, r1, ty, q1⟩ => ?_)
  obtain ⟨h1, h2⟩ := tyV_is I1 r1 ty
  refine ⟨T, id, pa, slot, hty, h1, h2, ?_⟩
  have hA := ha cpos pins s1 σ H1 _ I1 q1
  rw [hs] at hA ⊢
  refine Calls.callWith_builtin (by show (false || (backTo cpos (starEach es X.env)).any (·.1)) = false; rw [hplain] <;> rfl) (Calls.evalArgs_plain ?_)
  exact thn hA fun us s2 ⟨vs, H2, I2, r2, q2⟩ => hm pins s2 σ H2 x vs v us Q I2 r1 r2 q2
/- xs.append(e), list.index on a module's tuple .. are MtR facts of 06m -/
end
end L2

namespace L2
open PySem PySem.Spec PyProof.Rows

def MtM (X : Cx) (id : String) (r : V → List V → Hp → VK → Prop) : Prop :=
  ∀ (pins : List (Addr × Obj)) (s : Shared) (σ : St) (H : Hp) (x : V) (xs : List V) (v : Value) (us : List Value) (Q : VK), Inv X pins σ H s → RelV x v → Vals xs us → r x xs H Q →
    wpAny (model X.prog X.w) X.A (call (.builtin id) (v :: us)) (EP X pins σ Q) X.xe s

/-! ### lists of values -/
theorem Vals.one : ∀ {x : V} {us : List Value}, Vals [x] us → ∃ u, us = [u] ∧ RelV x u
  | _, _, .cons r .nil => ⟨_, rfl, r⟩
theorem Vals.rep {xs : List V} {us : List Value} (h : Vals xs us) : ∀ k : Nat, Vals (List.replicate k xs).flatten (List.replicate k us).flatten
  | 0 => .nil
  | k + 1 => by
    rw [List.replicate_succ, List.replicate_succ, List.flatten_cons, List.flatten_cons]
    exact Vals.append h (Vals.rep h k)
theorem foldl_rep (its : List Value) : ∀ (k : Nat) (acc : List Value),
    List.foldl (fun x1 x2 => x1 ++ x2) acc.toArray (List.replicate k its.toArray) = (acc ++ (List.replicate k its).flatten).toArray
  | 0, acc => by simp
  | k + 1, acc => by
    have e : acc.toArray ++ its.toArray = (acc ++ its).toArray := by simp
    have e2 : (acc ++ its) ++ (List.replicate k its).flatten = acc ++ (List.replicate (k + 1) its).flatten := by
      rw [List.replicate_succ, List.flatten_cons, List.append_assoc]
    rw [← e2, ← foldl_rep its k (acc ++ its), ← e, List.replicate_succ, List.foldl_cons]

section
variable {X : Cx} {pins : List (Addr × Obj)} {σ : St} {H : Hp} {s : Shared} {l b : Addr} {xs ys zs : List V}

/-! ### the two steps: a tracked list is rewritten, a new list is laid -/
theorem Inv.lset {its its' : List Value} {n : Nat} {f : Array Value → Array Value} {t' : Nat} (I : Inv X pins σ H s) (hH : H l = some (.lst xs))
    (e : s.heap.get? l = some { cls := .type "list", data := .seq its.toArray n }) (hf : f its.toArray = its'.toArray) (hv : Vals ys its') (hz : ys.length ≤ sizeLine) :
    Inv X pins σ (upd H l (.lst ys)) { s with heap := s.heap.update l (Obj.mapSeq f), toks := t' } := by
  have q := PySem.IsL.update e f
  rw [hf] at q
  refine I.write (x := l) (e := l) (by rw [hH]; exact trivial) (.inl rfl) (fun b' u hb hu => (Heap.get?_update_other s.heap (Obj.mapSeq f) (Ne.symm hb)).trans hu) ⟨_, q⟩ ?_
  exact ⟨hz, its', _, hv, q⟩
theorem Inv.lnew {its : List Value} {t' : Nat} (I : Inv X pins σ H s) (hv : Vals ys its) (hz : ys.length ≤ sizeLine) :
    Inv X pins σ (upd H s.heap.objs.size (.lst ys)) { s with heap := s.heap.push { cls := .type "list", data := .seq its.toArray }, toks := t' } :=
  I.laid (fun _ _ q => Heap.get?_push_of_some _ q) (Nat.le_refl _) ⟨hz, its, 0, hv, Heap.get?_push_size _ rfl⟩
theorem Inv.fresh (I : Inv X pins σ H s) : H s.heap.objs.size = none := I.hok.fresh (Nat.le_refl _)
theorem Inv.lstM (I : Inv X pins σ H s) (hH : H l = some (.lst xs)) : xs.length ≤ sizeLine ∧ ∃ (its : List Value) (n : Nat), Vals xs its ∧ xs.length = its.length ∧ s.heap.get? l = some { cls := .type "list", data := .seq its.toArray n } := by
  obtain ⟨z, its, n, r, e⟩ := I.hok l _ hH
  exact ⟨z, its, n, r, r.length, e⟩

theorem notLongL {n : Nat} (h : n ≤ sizeLine) : Builtin.List.listTooLong n = false := by
  unfold Builtin.List.listTooLong
  exact decide_eq_false (by omega)
end

section
variable {X : Cx}

/-! ### methods -/
def rAppend : V → List V → Hp → VK → Prop := fun x vs H Q => ∃ l xs y, x = .ref l ∧ vs = [y] ∧ H l = some (.lst xs) ∧ xs.length < sizeLine ∧ Q .non (upd H l (.lst (xs ++ [y])))
theorem mt_append : MtM X "list.append" rAppend := by
  intro pins s σ H x vs v us Q I rx rv h
  obtain ⟨l, xs, y, rfl, rfl, hH, hz, q⟩ := h
  cases rx
  obtain ⟨u, rfl, ru⟩ := rv.one
  obtain ⟨z, its, n, r, hl, e⟩ := I.lstM hH
  refine call_meets F.slot_list_append ⟨_, e, rfl⟩ F.entry_list_append (F.args_list_append_2 _ _) (PySem.list_append l its.toArray n u (by rw [List.size_toArray]; omega)) ⟨e, ?_⟩
  refine ⟨.non, _, I.lset (its' := its ++ [u]) hH e (by simp) (r.append (.cons ru .nil)) ?_, rfl, q⟩
  rw [List.length_append, List.length_singleton]
  omega

def rExtend : V → List V → Hp → VK → Prop := fun x vs H Q => ∃ l b xs zs, x = .ref l ∧ vs = [.ref b] ∧ H l = some (.lst xs) ∧ H b = some (.lst zs) ∧ xs.length + zs.length ≤ sizeLine ∧ Q .non (upd H l (.lst (xs ++ zs)))
theorem mt_extend : MtM X "list.extend" rExtend := by
  intro pins s σ H x vs v us Q I rx rv h
  obtain ⟨l, b, xs, zs, rfl, rfl, hH, hB, hz, q⟩ := h
  cases rx
  obtain ⟨u, rfl, ru⟩ := rv.one
  cases ru
  obtain ⟨z, its, n, r, hl, e⟩ := I.lstM hH
  obtain ⟨z2, its2, n2, r2, hl2, e2⟩ := I.lstM hB
  have hsz : its.toArray.size + its2.toArray.size ≤ sizeLine := by rw [List.size_toArray, List.size_toArray]; omega
  have hlong : ¬ (!its.toArray.isEmpty && Builtin.List.listTooLong (its.toArray.size + its2.toArray.size)) = true := by
    rw [notLongL hsz, Bool.and_false]
    exact Bool.false_ne_true
  refine call_meets F.slot_list_extend ⟨_, e, rfl⟩ F.entry_list_extend (F.args_list_extend_2 _ _)
    (AutoSeq1.list_extend_list_list_0 l its.toArray n b its2.toArray n2 hlong (by rw [List.size_toArray]; omega) (by omega)) ⟨e, e2, ?_⟩
  refine ⟨.non, _, I.lset (its' := its ++ its2) hH e (by simp) (r.append r2) ?_, rfl, q⟩
  rw [List.length_append]
  omega

def rPop : V → List V → Hp → VK → Prop := fun x vs H Q => ∃ l xs y, x = .ref l ∧ vs = [] ∧ H l = some (.lst xs) ∧ xs[xs.length - 1]? = some y ∧ Q y (upd H l (.lst xs.dropLast))
def rPopAt : V → List V → Hp → VK → Prop := fun x vs H Q => ∃ l xs i k y, x = .ref l ∧ vs = [.int i] ∧ H l = some (.lst xs) ∧ -(2 ^ 63) ≤ i ∧ i < 2 ^ 63 ∧ seqIndex? i xs.length = some k ∧ xs[k]? = some y ∧ Q y (upd H l (.lst (xs.eraseIdx k)))
def rReverse : V → List V → Hp → VK → Prop := fun x vs H Q => ∃ l xs, x = .ref l ∧ vs = [] ∧ H l = some (.lst xs) ∧ Q .non (upd H l (.lst xs.reverse))
def rClear : V → List V → Hp → VK → Prop := fun x vs H Q => ∃ l xs, x = .ref l ∧ vs = [] ∧ H l = some (.lst xs) ∧ Q .non (upd H l (.lst []))
/-! ### list + list, list += list, list * int -/
def rCat : R2 := fun x y H Q => ∃ l b xs zs, x = .ref l ∧ y = .ref b ∧ H l = some (.lst xs) ∧ H b = some (.lst zs) ∧ xs.length + zs.length ≤ sizeLine ∧ ∀ p, H p = none → Q (.ref p) (upd H p (.lst (xs ++ zs)))
theorem op_cat : OpR X (binaryOp .Add) rCat := by
  intro pins s σ H x y v u Q I rx ry h
  obtain ⟨l, b, xs, zs, rfl, rfl, hH, hB, hz, q⟩ := h
  cases rx
  cases ry
  obtain ⟨z, its, n, r, hl, e⟩ := I.lstM hH
  obtain ⟨z2, its2, n2, r2, hl2, e2⟩ := I.lstM hB
  refine PySem.P.add_list e e2 ?_ (by rw [List.size_toArray, List.size_toArray]; omega)
  have ea : its.toArray ++ its2.toArray = (its ++ its2).toArray := by simp
  rw [ea]
  exact ⟨.ref _, _, I.lnew (t' := s.toks) (r.append r2) (by rw [List.length_append]; omega), rfl, q _ I.fresh⟩
/-- a list times an int (a negative one is nothing) -/
def rRep : R2 := fun x y H Q => ∃ l k xs, x = .ref l ∧ y = .int k ∧ H l = some (.lst xs) ∧ -(2 ^ 63) ≤ k ∧ k < 2 ^ 63 ∧ xs.length * k.toNat ≤ sizeLine ∧
  ∀ p, H p = none → Q (.ref p) (upd H p (.lst (List.replicate k.toNat xs).flatten))
theorem len_rep {α : Type} (xs : List α) (k : Nat) : (List.replicate k xs).flatten.length = k * xs.length := by
  induction k with
  | zero => simp
  | succ k ih => rw [List.replicate_succ, List.flatten_cons, List.length_append, ih, Nat.succ_mul, Nat.add_comm]
theorem op_rep : OpR X (binaryOp .Mult) rRep := by
  intro pins s σ H x y v u Q I rx ry h
  obtain ⟨l, k, xs, rfl, rfl, hH, h1, h2, hz, q⟩ := h
  cases rx
  obtain ⟨t, rfl⟩ := ry
  obtain ⟨z, its, n, r, hl, e⟩ := I.lstM hH
  have hlen : its.toArray.size * k.toNat ≤ sizeLine := by rw [List.size_toArray, ← hl]; exact hz
  have hcap : ¬ its.toArray.size * k.toNat > (2 ^ 63 - 1) / 8 := by
    have : (sizeLine : Nat) ≤ (2 ^ 63 - 1) / 8 := by decide
    omega
  have hfit : ¬ (!Builtin.List.listFitsIndex k) = true := by
    rw [fitsIndex_both h1 h2]
    exact Bool.false_ne_true
  have hlong : ¬ Builtin.List.listTooLong (its.toArray.size * k.toNat) = true := by
    rw [notLongL hlen]
    exact Bool.false_ne_true
  have hnew : List.foldl (fun x1 x2 => x1 ++ x2) #[] (List.replicate (if its.toArray.isEmpty = true then 0 else k.toNat) its.toArray) = (List.replicate k.toNat its).flatten.toArray := by
    have f0 : ∀ m : Nat, List.foldl (fun x1 x2 => x1 ++ x2) #[] (List.replicate m its.toArray) = (List.replicate m its).flatten.toArray := fun m => by
      have := foldl_rep its m []
      rw [List.nil_append] at this
      exact this
    rw [f0]
    cases its with
    | nil => simp
    | cons a r' => rw [if_neg (by simp)]
  refine wpAny_binaryOp_repeat_ref (T := "list") (U := "int") (by decide) ⟨_, e, rfl⟩ (fun s' => typeIs_int s' k t) noFill_list_mul F.fills_int_mul F.slot_int_rmul repeat_list F.slot_int_index.lookup
    (call_meets F.slot_int_rmul (typeIs_int s k t) F.entry_int_rmul (F.args_int_rmul_2 _ _) (int___rmul___int_list k t l its.toArray n)
      ⟨e, rfl, ⟨_, e, rfl⟩, call_meets F.slot_list_mul ⟨_, e, rfl⟩ F.entry_list_mul (F.args_list_mul_2 _ _) (AutoListH.list___mul___list_int_3 l its.toArray n k t hfit hcap hlong) ⟨e, ?_⟩⟩)
  rw [hnew]
  exact ⟨.ref _, _, I.lnew (t' := s.toks) (r.rep k.toNat) (by rw [len_rep, Nat.mul_comm]; exact hz), rfl, q _ I.fresh⟩

/-! ### del xs[i] -/
end

/-! ### xs[a:b] = ys -/
section
variable {prog : Program} {w : World} {A : Around} {E : Value → Shared → Prop} {s : Shared}
end

section
variable {X : Cx}
end
end L2

namespace Att
open PySem PySem.W PySem.Calls PyProof.Rows

/-! ### the script -/
theorem ints_of_wellAll {P : Params} {h : Heap} : ∀ (ns : List Int) (vs : List Value), WellAll P h vs (ns.map WData.int) → IntsAre vs ns := by
  intro ns
  induction ns with
  | nil =>
    intro vs w
    rw [List.map_nil] at w
    cases w
    exact .nil
  | cons n ns ih =>
    intro vs w
    rw [List.map_cons] at w
    cases w with
    | cons a b =>
      cases a
      exact .cons _ _ (ih _ b)

theorem script_of {l : OpenLaw} {n : Nat} (hn : l.most = some n) {P : Params} {h : Heap} {args : List WData} {vals : List Value}
    (hpre : l.row.toRowW.claim.pre args = true) (hwl : WellAll P h vals args) :
    ∃ a vs ns, vals = [Value.ref a] ∧ args = [WData.list (ns.map WData.int)] ∧ h.get? a = some { cls := .type "list", data := .seq vs.toArray } ∧ IntsAre vs ns ∧ ns.length ≤ n := by
  have hsh : WShape.hasAll [] args [.list .int] = true := (pre_splitW hpre).1
  have hc : l.pre.holds [] { args := args } = true := (pre_splitW hpre).2
  obtain ⟨d, r, rfl, h1, h2⟩ := hasAllW_cons hsh
  obtain rfl := hasAllW_nil h2
  obtain ⟨xs, rfl, h3⟩ := hasW_list h1
  obtain ⟨ns, rfl⟩ := items_int h3
  have hlen : ns.length ≤ n := by
    unfold OpenLaw.pre at hc
    have h4 : (WTm.not (.lt (.lit (.int (n : Int))) (.len (.arg 0)))).holds [] { args := [.list (ns.map .int)] } = true := by
      have h4 := (holds_andW hc).1
      rw [hn] at h4
      exact h4
    have h5 := condW_of h4 (w_not (w_lt w_lit (w_len_list (w_arg rfl))))
    rw [List.length_map] at h5
    refine Nat.le_of_not_lt fun q => ?_
    have q' : (n : Int) < ((ns.length : Nat) : Int) := by omega
    first
      | (rw [decide_eq_true q'] at h5; exact absurd h5 (by decide))
      | (simp at h5; omega)
  cases hwl with
  | cons w1 w2 =>
    cases w2
    cases w1 with
    | list ho hall => exact ⟨_, _, ns, rfl, rfl, ho, ints_of_wellAll ns _ hall, hlen⟩

theorem post_true (l : OpenLaw) (args : List WData) : l.row.toRowW.claim.post args (.bool true) args = true :=
  postW_of (r := l.row.toRowW) (X := (true == true))
    (show WShape.has [] (.bool true) .bool = true by first | rfl | decide | simp [WShape.has, WShape.arms, WShape.armsAll])
    (show (WTm.eq .res (.lit (.bool true))).value [] { args := args, res := some (.bool true), after := args } = some (.bool (true == true)) from w_eq_bool (w_res rfl) w_lit) rfl

/-! ### the attachment: holds_open's last premise (the goal 'hc' behind k_head) from a wpAny of the law's body -/
/-- the same from a codeAny of the CALL (for a layer whose function contracts speak of calls) -/
theorem attach_call {l : OpenLaw} {n : Nat} {q : Program} {loose : List Str} {XP : (Str → Option Value) → Heap → Prop} {YP : World → Heap → Prop} {d : DefRec}
    (hn : l.most = some n) (hdf : d.params.defaults = [])
    (call : ∀ (w : World) (s₀ s₁ : Shared) (mg mb : Str → Option Value) (fa : Addr) (o : Obj) (pm cd doc : Value) (a : Addr) (vs : List Value) (ns : List Int),
      Ground q loose [] XP w s₀ mg mb s₁.heap → YP w s₁.heap →
      s₁.heap.get? fa = some o → o.data = .func (docDef d.name d.params d.body d.scope pm cd doc) → s₁.heap.CodeRec cd d.name → mg d.name = some (.ref fa) →
      s₁.heap.get? a = some { cls := .type "list", data := .seq vs.toArray } → IntsAre vs ns → ns.length ≤ n → s₁.gens = #[] →
      codeAny (model l.prog w) callerA (.call (.ref fa) ⟨[.ref a], []⟩) (fun r s' => r = .ok (.ret (.bool true)) ∧ OldK s₁.heap s'.heap ∧ s'.os = s₁.os ∧ AllBare s'.gens) s₁) :
    WalkO q loose XP YP l.row.toRowW d [] (fun f vs => PySem.call f vs) := by
  intro w s₀ s₁ mg mb G Y fa o pm cd doc dV kV ho hd hcd hD hmg hg args vals as hpre hlay hrd hwl hlo
  obtain rfl : dV = .none := Dflts.none hD hdf
  obtain rfl : kV = .none := Dflts.noKw hD
  obtain ⟨a, vs, ns, rfl, rfl, hobj, hints, hlen⟩ := script_of hn hpre hwl
  refine enter_call (codeAny_mono (call w s₀ s₁ mg mb fa o pm cd doc a vs ns G Y ho (fd_plain hd) hcd hmg hobj hints hlen hg) fun r s' hq => ?_)
  obtain ⟨rfl, h2, h3, h4⟩ := hq
  exact ⟨.inl ⟨.bool true, .bool true, [], rfl, fun _ => rfl, .bool true, post_true l _, fun _ => ⟨List.Pairwise.nil, fun _ hm => (nomatch hm)⟩⟩, h2, h3, h4⟩

/-! ### rules over ANY heap (no ledger) from facts about the written part K: the library's own take a ledger (News) for what they write -/
section
variable {prog : Program} {w : World} {A : Around} {E : Value → Shared → Prop} {s : Shared} {K : Frag}

/-! the whole heap as the ledger: makes every rule that writes through a ledger a rule over any heap -/
def noObjs (h : Heap) : Heap := { h with objs := #[] }
def ledger (h : Heap) (L d : Addr) : List (Addr × Obj) := (List.range h.objs.size).filterMap fun a => if a = L ∨ a = d then none else (h.get? a).map fun o => (a, o)
end
end Att

namespace L2
open PySem PySem.Spec PyProof.Rows

theorem vals_ints : ∀ {vs : List Value} {ns : List Int}, IntsAre vs ns → Vals (ns.map V.int) vs
  | _, _, .nil => .nil
  | _, _, .cons n t h => .cons ⟨t, rfl⟩ (vals_ints h)

/-- nothing is tracked but the script, known to the object (or it is an object of the module) -/
def Only (H : Hp) : Prop := ∀ b, H b = none ∨ ∃ o xs, H b = some (.frz o (.lst xs))

/-- THE HEAD: the law's promise, at the heap behind the top. F, the promise of the law's def, may use that base is part of the heap (so K.In base, base.Ns mainGlobals mg stand in Mod) -/
theorem law_call {P : Program} {w : World} {K : PySem.W.Frag} {mg mb : Str → Option Value} {CX : CXT} {k : Nat} {fa a : Addr} {fd : FuncData} {x : Str} {sp : Sp} {s₁ : Shared} {vs : List Value} {ns : List Int}
    (KX : K.In s₁.heap) (hns : s₁.heap.Ns mainGlobals mg) (hb : s₁.heap.Ns builtinsNs mb) (hbb : ∀ x : Str, x ≠ "__name__" → mb x = bootBuiltins x) (hlim : s₁.heap.NoLimit) (hg : s₁.gens = #[])
    (ha : s₁.heap.get? a = some { cls := .type "list", data := .seq vs.toArray }) (hi : IntsAre vs ns) (hl : ns.length ≤ sizeLine) (hr : Room k callerA)
    (F : ∀ base : Heap, K.In base → base.Ns mainGlobals mg → FnOk P w K mg base CX k fa fd [x] sp) (hbind : ∀ (s : Shared) (u : Value), BindsTo s fd ⟨[u], []⟩ [(x, u)])
    (hsp : ∀ H : Hp, Only H → SqL K H a (ns.map V.int) → sp [.ref a] H (fun v _ => v = .bl true) fun _ _ _ => False)
    (hCX : ∀ H e s', CX [] H s₁ (fun _ _ _ => False) e s' → False) :
    codeAny (model P w) callerA (.call (.ref fa) ⟨[.ref a], []⟩) (fun r s' => r = .ok (.ret (.bool true)) ∧ OldK s₁.heap s'.heap ∧ s'.os = s₁.os ∧ AllBare s'.gens) s₁ := by
  have rv := vals_ints hi
  have lenV := hi.length
  -- from an abstract heap in which nothing but the script may be tracked
  have core : ∀ H : Hp, Only H → SqL K H a (ns.map V.int) → HOk P w H s₁.heap → (∀ b, H b ≠ none → b = a) → (H a ≠ none → K.lookup a = none) →
      codeAny (model P w) callerA (.call (.ref fa) ⟨[.ref a], []⟩) (fun r s' => r = .ok (.ret (.bool true)) ∧ OldK s₁.heap s'.heap ∧ s'.os = s₁.os ∧ AllBare s'.gens) s₁ := by
    intro H hO hS hok hA hK
    have base_of : ∀ {b : Addr} {o : Obj}, s₁.heap.get? b = some o → H b = none → (hidT s₁.heap H).get? b = some o := fun e n => hidT_get e n
    have noA : ∀ {b : Addr} {o : Obj} {es : Array DictEntry} {ep : Nat}, s₁.heap.get? b = some o → o.data = .dict es ep → H b = none := fun {b o es ep} e d => by
      cases q : H b with
      | none => rfl
      | some u =>
        have e' : b = a := hA b (by rw [q]; simp)
        subst e'
        rw [ha] at e; cases e
        have d' : Data.seq vs.toArray _ = Data.dict es ep := d
        cases d'
    have nsK : ∀ {b : Addr} {m : Str → Option Value}, s₁.heap.Ns b m → (hidT s₁.heap H).Ns b m := fun {b m} ⟨o, es, ep, e, d, r⟩ => ⟨o, es, ep, base_of e (noA e d), d, r⟩
    have hKb : K.In (hidT s₁.heap H) := fun b o e => base_of (KX b o e) (by
      cases q : H b with
      | none => rfl
      | some u =>
        have e' : b = a := hA b (by rw [q]; simp)
        subst e'
        rw [hK (by rw [q]; simp)] at e; cases e)
    have hM : Mod K mg (hidT s₁.heap H) := ⟨hKb, nsK hns, ⟨mb, nsK hb, hbb⟩, let ⟨mc, h1, h2⟩ := hlim; ⟨mc, nsK h1, h2⟩⟩
    have e0 : Env0 P w K mg (hidT s₁.heap H) callerA [] s₁ H := ⟨rfl, hM, fun b o e => of_hidT e, Nat.le_of_eq (hidT_size _ _), trivial, fun b hb => absurd (show b ∈ ([] : List Addr) from hb) (by simp), hok, .of_eq hg⟩
    refine codeAny_mono ((F _ hKb (nsK hns)).run callerA [] s₁ H ⟨[.ref a], []⟩ [.ref a] [.ref a] _ _ hr e0 (hbind s₁ (.ref a)) (.cons rfl .nil) (hsp H hO hS)) fun r s' h => ?_
    cases r with
    | error e => exact (hCX H e s' h).elim
    | ok fl =>
      cases fl with
      | next => exact False.elim h
      | brk => exact False.elim h
      | cont => exact False.elim h
      | ret u =>
        obtain ⟨v, H', os, bare, un, hok', r', q⟩ := h
        have q' : v = .bl true := q
        subst q'
        obtain rfl : u = Value.bool true := r'
        refine ⟨rfl, OldK.of_keep fun b o e => ?_, os, bare⟩
        cases q : H b with
        | none => exact un.keep b o e q (by intro z; exact absurd (show b ∈ ([] : List Addr) from z) (by simp)) (by simp)
        | some u =>
          rcases hO b with z | ⟨ob, xs, z⟩
          · rw [q] at z; cases z
          · have z2 := un.frzs b ob _ z
            obtain ⟨e1, _⟩ := hok b _ z
            obtain ⟨e2, _⟩ := hok' b _ z2
            rw [e] at e1; cases e1
            exact e2
  cases hk : K.lookup a with
  | some o =>
    -- the script is one of the module's own objects
    have e := KX a o hk
    rw [ha] at e
    cases e
    refine core (fun _ => none) (fun _ => .inl rfl) (.inr ⟨_, vs.toArray, _, hk, rfl, rfl, rfl, by rw [List.size_toArray, lenV]; exact hl, by simpa using rv⟩) (fun b u z => by have z' : (none : Option HO) = some u := z; cases z') (fun b z => absurd rfl z) fun z => absurd rfl z
  | none =>
    refine core (fun b => if b = a then some (.frz { cls := .type "list", data := .seq vs.toArray } (.lst (ns.map V.int))) else none) (fun b => ?_) (.inl (.inr ⟨{ cls := .type "list", data := .seq vs.toArray }, if_pos rfl⟩)) (fun b u z => ?_) (fun b z => ?_) fun _ => hk
    · by_cases hb : b = a
      · exact .inr ⟨_, _, if_pos hb⟩
      · exact .inl (if_neg hb)
    · by_cases hb : b = a
      · have z' := (if_pos hb).symm.trans z
        cases z'
        subst hb
        exact ⟨ha, by rw [List.length_map]; exact hl, vs, _, rv, ha⟩
      · have z' := (if_neg hb).symm.trans z
        cases z'
    · by_cases hb : b = a
      · exact hb
      · exact absurd (if_neg hb) z
end L2

namespace L2
open PySem PySem.Spec PyProof.Rows

abbrev KOf {K : PySem.W.Frag} {h : Heap} (_ : K.In h) : PySem.W.Frag := K

/-- the goal that k_head leaves (case hc), from the law's promise. F gives the function object fd (K's own) once, then the promise over every base -/
theorem walk_of {l : PySem.W.OpenLaw} {n k : Nat} {q : Program} {loose : List Str} {XP : (Str → Option Value) → Heap → Prop} {YP : World → Heap → Prop} {d : DefRec} {K : Params → PySem.W.Frag} {CX : World → CXT} {sp : World → Sp} {x : Str}
    (hn : l.most = some n) (hn2 : n ≤ sizeLine) (hdf : d.params.defaults = []) (hr : Room k callerA)
    (hY : ∀ (w : World) (h : Heap), YP w h → (K w.params).In h)
    (F : ∀ (w : World) (mg : Str → Option Value) (fa : Addr) (h : Heap), (K w.params).In h → h.Ns mainGlobals mg → mg d.name = some (.ref fa) →
      ∃ fd : FuncData, (∀ (s : Shared) (u : Value), BindsTo s fd ⟨[u], []⟩ [(x, u)]) ∧
        ∀ base : Heap, (K w.params).In base → base.Ns mainGlobals mg → FnOk l.prog w (K w.params) mg base (CX w) k fa fd [x] (sp w))
    (hsp : ∀ (w : World) (H : Hp) (a : Addr) (ns : List Int), ns.length ≤ n → Only H → SqL (K w.params) H a (ns.map V.int) → sp w [.ref a] H (fun v _ => v = .bl true) fun _ _ _ => False)
    (hCX : ∀ (w : World) (H : Hp) (s : Shared) (e : Value) (s' : Shared), CX w [] H s (fun _ _ _ => False) e s' → False) :
    PySem.W.WalkO q loose XP YP l.row.toRowW d [] (fun f vs => PySem.call f vs) := by
  refine Att.attach_call hn hdf fun w s₀ s₁ mg mb fa o pm cd doc a vs ns G Y ho hd hcd hmg hobj hints hlen hg => ?_
  have KX := hY w _ Y
  obtain ⟨fd, hb, hF⟩ := F w mg fa _ KX G.T.g hmg
  exact law_call KX G.T.g G.T.b G.T.builtins G.T.nolimit hg hobj hints (Nat.le_trans hlen hn2) hr hF hb (fun H hO hS => hsp w H a ns hlen hO hS) fun H e s' => hCX w H s₁ e s'
end L2

/- THE LAST THEOREM (shape; LID, My.* are yours):
   My.Adr: a structure of the addresses that your layer names (classes, functions); My.Txt K t: a structure (Prop) of the equations over K;
   My.txt_mk : {K} {implicit addresses ..} (e1 : nsIn K mainGlobals "law" = some (some (.ref f))) (e2 : K.lookup f = some ⟨oc, od, .func (fnOf "law" "law" params body scope dV kV doc pm an cdv ct), sl⟩) (e3 : codeIn K cdv "law" = true) .. : ∃ t, My.Txt K t

set_option maxRecDepth 100000 in
set_option maxHeartbeats 0 in
theorem PySem.Challenge.cw_LID_holds : PySem.Challenge.rw_LID.Holds := by
  w_on; o_law; k_head; (case hw => w_witness2)
  k_fill
  refine L2.walk_of (l := PySem.Challenge.rw_LID) (n := 63) (k := 40) (x := "script") (CX := fun w => ..) (sp := fun _ => My.sp_law) rfl (by decide) rfl ⟨rfl, by decide, by decide⟩ (fun w h Y => PySem.W.kIn_of Y) ?F ?S ?C
  case F =>
    intro w mg fa h KX G hmg
    have T : ∃ t, My.Txt (L2.KOf KX) t := by
      dsimp only [L2.KOf]                          -- K must stand as «<heap const> w.params» for k_is
      refine' My.txt_mk ?e1 ?e2 ?e3 ..
      (case e1 => PySem.W.k_is)                    -- in the order: a name -> its address -> its object -> its parts
      (case e2 => PySem.W.k_is)
      ..
    obtain ⟨t, T⟩ := T
    have e0 := hmg.symm.trans (PySem.W.mg_of KX G T.law)
    cases e0                                       -- fa is the law's own address
    exact ⟨_, fun s u => .of_eq rfl, fun base kb nb => My.law_fn T kb nb⟩     -- if «.of_eq rfl» comes too early: refine' ⟨_, ?b, fun base kb nb => My.law_fn T kb nb⟩; exact fun s u => .of_eq rfl
  case S => exact fun w H a ns hl hO hS => ..
  case C => exact ..
(the tactic k_is has no namespace: write k_is) -/

/-! SHORT WORDS over the layer: a def of the text, its body, what a loop and a test want. -/
namespace L2
open PySem PySem.Spec PyProof.Rows

/-! ### the text by places -/
/-- the j-th statement of a class's body -/
def inClass (s : Stmt) (j : Nat) : Stmt := match s with
  | .ClassDef _ _ _ body _ _ _ _ _ _ _ => body.getD j (.Pass ⟨0, 0, 0, 0⟩)
  | _ => .Pass ⟨0, 0, 0, 0⟩
def defArgs (s : Stmt) : Arguments := match s with
  | .FunctionDef _ a _ _ _ _ _ _ _ _ => a
  | _ => { posonlyargs := [], args := [], vararg := none, kwonlyargs := [], kw_defaults := [], kwarg := none, defaults := [] }
def defBody (s : Stmt) : List Stmt := match s with
  | .FunctionDef _ _ b _ _ _ _ _ _ _ => b
  | _ => []
def defScope (s : Stmt) : Scope := match s with
  | .FunctionDef _ _ _ _ _ _ sc _ _ _ => sc
  | _ => { kind := .function, names := [], isGenerator := false, isCoroutine := false }

/-! ### no exception leaves a def -/
abbrev CX0 : CXT := fun _ _ _ _ _ _ => False
abbrev E0 : XK := fun _ _ _ => False
theorem pass0 {X : Cx} : Passes CX0 X E0 := fun _ _ _ _ _ _ _ h => h.elim

/-! ### a def (or method) of the text as it stands behind the top -/
structure Fun (K : PySem.W.Frag) (x qual : Str) (st : Stmt) (f : Addr) (fd : FuncData) : Prop where
  ex : ∃ (oc : Value) (od : Option Addr) (kV doc pm : Value) (an : Option Addr) (cdv ct : Value) (osl : Array (Option Value)),
    fd = PySem.W.fnOf x qual (defArgs st) (defBody st) (defScope st) .none kV doc pm an cdv ct ∧ K.lookup f = some ⟨oc, od, .func fd, osl⟩ ∧ PySem.W.codeIn K cdv qual = true
  kp : PySem.W.keepIn K (.ref f) = true
section
variable {P : Program} {w : World} {K : PySem.W.Frag} {mg : Str → Option Value} {base : Heap}
/-- THE RULE for a def: its body as a term of rules, and the reading of that term -/
theorem Fun.ok {x qual : Str} {st : Stmt} {f : Addr} {fd : FuncData} {N ps : List Str} {k : Nat} {sp : Sp} (F : Fun K x qual st f fd) (S : FnScope N ps (defScope st)) (len : ∀ vs H Q E, sp vs H Q E → vs.length = ps.length)
    (hbody : ∀ (cdv : Value) (A : Around) (outer : List Env) (s : Shared) (H : Hp) (vs : List V) (Q : VK) (E : XK), Room k (A.deeper (envOfC qual (defScope st) s.heap.objs.size f cdv)) → sp vs H Q E →
      ∃ t, PSs (cxOf CX0 P w K mg base N qual (defScope st) f cdv A outer s H E).nox (defBody st) t ∧ t { nx := fun _ H' => Q .non H', rt := Q } (start N vs) H) : FnOk P w K mg base CX0 (k + 1) f fd ps sp := by
  obtain ⟨oc, od, kV, doc, pm, an, cdv, ct, osl, rfl, lk, hcd⟩ := F.ex
  refine fn_of lk hcd S len fun A outer s H vs Q E hr hsp => ?_
  obtain ⟨t, h, q⟩ := hbody cdv A outer s H vs Q E hr hsp
  exact ⟨t, h.nox, q⟩
/-- how its arguments bind (no defaults): h is «fun _ _ _ _ _ _ us hl => match us, hl with | [_, _], _ => rfl», one _ a parameter -/
theorem Fun.binds {x qual : Str} {st : Stmt} {f : Addr} {fd : FuncData} {ps : List Str} (F : Fun K x qual st f fd)
    (h : ∀ (kV doc pm : Value) (an : Option Addr) (cdv ct : Value) (us : List Value), us.length = ps.length → bindArgs (PySem.W.fnOf x qual (defArgs st) (defBody st) (defScope st) .none kV doc pm an cdv ct) ⟨us, []⟩ = pure (ps.zip us)) : Binds K fd ps [] := by
  obtain ⟨oc, od, kV, doc, pm, an, cdv, ct, osl, rfl, lk, hcd⟩ := F.ex
  exact .all (h kV doc pm an cdv ct)
theorem fun_mk {x qual : Str} {st : Stmt} {f : Addr} {oc : Value} {od an : Option Addr} {osl : Array (Option Value)} {kV doc pm cdv ct : Value} (l : K.lookup f = some ⟨oc, od, .func (PySem.W.fnOf x qual (defArgs st) (defBody st) (defScope st) .none kV doc pm an cdv ct), osl⟩)
    (c : PySem.W.codeIn K cdv qual = true) (k : PySem.W.keepIn K (.ref f) = true) : Fun K x qual st f (PySem.W.fnOf x qual (defArgs st) (defBody st) (defScope st) .none kV doc pm an cdv ct) := ⟨⟨oc, od, kV, doc, pm, an, cdv, ct, osl, rfl, l, c⟩, k⟩
end
theorem small1000 {n : Nat} (h : n ≤ 1000) : n < sizeLine := Nat.lt_of_le_of_lt h (by decide)

/-! ### expressions in short: the name that stands in the i-th slot -/
section
variable {X : Cx}
theorem pv (i : Nat) {x : Str} {pos : Pos} (hN : X.N[i]? = some x := by rfl) (hv : Vis X.env.scope x := by first | exact Or.inl rfl | exact Or.inr (Or.inl rfl) | exact Or.inr (Or.inr rfl)) (hd : (x == ("__debug__" : Str)) = false := by decide)
    (hcd : (x == ("__classdict__" : Str)) = false := by decide) : PE X (.Name x pos) (tVar i) := pe_var hN hv hd hcd
end

/-! ### tests -/
theorem iteF {A B : Prop} (h : B) : if false = true then A else B := by
  rw [if_neg Bool.false_ne_true]
  exact h
theorem iteT {A B : Prop} (h : A) : if true = true then A else B := by
  rw [if_pos rfl]
  exact h
theorem ite2 {c A B : Prop} [Decidable c] (h1 : c → A) (h2 : ¬ c → B) : if c then A else B := by
  by_cases h : c
  · rw [if_pos h]
    exact h1 h
  · rw [if_neg h]
    exact h2 h
theorem iteNS {c A B : Prop} [Decidable c] (hc : c) (h : B) : if (!decide c) = true then A else B := by
  rw [decide_eq_true hc]
  exact iteF h

/-! ### heaps -/
/-- all that was tracked is as it was -/
def Same (H H' : Hp) : Prop := ∀ b o, H b = some o → H' b = some o
theorem Same.refl (H : Hp) : Same H H := fun _ _ h => h
theorem Same.trans {H H1 H2 : Hp} (a : Same H H1) (b : Same H1 H2) : Same H H2 := fun c o h => b c o (a c o h)
theorem Same.free {H H' : Hp} (e : Same H H') {l : Addr} (h : H' l = Option.none) : H l = Option.none := by
  cases q : H l with
  | none => rfl
  | some o =>
    rw [e l o q] at h
    cases h
theorem Same.seq {K : PySem.W.Frag} {H H' : Hp} {a : Addr} {xs : List V} (e : Same H H') (h : SqL K H a xs) : SqL K H' a xs := by
  rcases h with (h | ⟨o, h⟩) | h
  · exact .inl (.inl (e _ _ h))
  · exact .inl (.inr ⟨o, e _ _ h⟩)
  · exact .inr h

end L2
set_option maxHeartbeats 4000000
set_option exponentiation.threshold 2000

/-! MORE RULES over the layer: big products and quotients, a range by steps, isinstance, data compared, calls in short -/
namespace L2
open PySem PySem.Spec PyProof.Rows
section
variable {X : Cx}
/-! ### big ints -/
theorem bits_le {i : Int} {n : Nat} (h : i.natAbs < 2 ^ n) : Builtin.Int.intBits i ≤ n := by
  by_cases hz : i = 0
  · subst hz
    have e : Builtin.Int.intBits 0 = 0 := by decide
    rw [e]
    exact Nat.zero_le _
  · have h0 : i.natAbs ≠ 0 := by omega
    have := (Nat.log2_lt h0).mpr h
    unfold Builtin.Int.intBits
    split
    · exact Nat.zero_le _
    · omega
def CMulB (i j : Int) : Prop := i.natAbs < 2 ^ 1000 ∧ j.natAbs < 2 ^ 1000
def CDivB (_ j : Int) : Prop := j ≠ 0 ∧ j.natAbs < 2 ^ 1000
/-! ### range(lo, hi, step), the step above 0 -/
def Itrs (lo st : Int) (n : Nat) : It := ⟨fun i _ => i < n, fun i H x H' => H' = H ∧ x = .int (lo + (i : Nat) * st), fun i _ => n ≤ i⟩
def iRng3 (ta : TA) : TI := fun σ H R => ta σ H fun vs H1 => ∃ i j st : Int, vs = [.int i, .int j, .int st] ∧ (st ≠ 0 ∧ st.natAbs < 1073741824) ∧ Builtin.Range.small i j st = true ∧ 0 ≤ Builtin.Range.rangeSize i j st ∧ R (Itrs i st (Builtin.Range.rangeSize i j st).toNat) H1
/-! ### isinstance(x, T), T a built-in type -/
theorem call_isinst : CallR X (.builtin "isinstance") (fun xs H Q => ∃ x t n b, xs = [x, .ty n] ∧ TyOf X.K H x t ∧ PySem.W.kitOne X.K t (.type n) = some b ∧ Q (.bl b) H) := by
  intro pins s σ H xs us Q I r h
  obtain ⟨x, t, n, b, rfl, ty, e, q⟩ := h
  obtain ⟨u, w', rfl, ru, rw'⟩ := vals2 r
  cases (show w' = Value.type n from rw')
  exact isinst_ok I ru ty e fun tk => ⟨.bl b, H, I.tok _, rfl, q⟩
/-! ### data: what a value is worth, lists and tuples within; ok: the addresses that may stand in it -/
mutual
inductive DA (K : PySem.W.Frag) (ok : Addr → Prop) (H : Hp) : V → PyData → Prop
  | non : DA K ok H .non .none
  | bl (b : Bool) : DA K ok H (.bl b) (.bool b)
  | int (i : Int) : DA K ok H (.int i) (.int i)
  | str (x : Str) : DA K ok H (.str x) (.str x)
  | lst {a : Addr} {vs : List V} {ds : List PyData} : ok a → SqL K H a vs → DAs K ok H vs ds → DA K ok H (.ref a) (.list ds)
  | tup {a : Addr} {vs : List V} {ds : List PyData} : ok a → SqT K H a vs → DAs K ok H vs ds → DA K ok H (.ref a) (.tuple ds)
inductive DAs (K : PySem.W.Frag) (ok : Addr → Prop) (H : Hp) : List V → List PyData → Prop
  | nil : DAs K ok H [] []
  | cons {v : V} {d : PyData} {vs : List V} {ds : List PyData} : DA K ok H v d → DAs K ok H vs ds → DAs K ok H (v :: vs) (d :: ds)
end
abbrev any (_ : Addr) : Prop := True
/-- what is tracked at the addresses that ok names is as it was -/
def Keep (ok : Addr → Prop) (H H' : Hp) : Prop := ∀ b o, ok b → H b = some o → H' b = some o
theorem Same.keep {ok : Addr → Prop} {H H' : Hp} (e : Same H H') : Keep ok H H' := fun b o _ h => e b o h
theorem Keep.seq {K : PySem.W.Frag} {ok : Addr → Prop} {H H' : Hp} {a : Addr} {xs : List V} (e : Keep ok H H') (n : ok a) (h : SqL K H a xs) : SqL K H' a xs := by
  rcases h with (h | ⟨o, h⟩) | h
  · exact .inl (.inl (e _ _ n h))
  · exact .inl (.inr ⟨o, e _ _ n h⟩)
  · exact .inr h
theorem Keep.seqT {K : PySem.W.Frag} {ok : Addr → Prop} {H H' : Hp} {a : Addr} {xs : List V} (e : Keep ok H H') (n : ok a) (h : SqT K H a xs) : SqT K H' a xs := by
  rcases h with (h | ⟨o, h⟩) | h
  · exact .inl (.inl (e _ _ n h))
  · exact .inl (.inr ⟨o, e _ _ n h⟩)
  · exact .inr h
theorem Same.seqT {K : PySem.W.Frag} {H H' : Hp} {a : Addr} {xs : List V} (e : Same H H') (h : SqT K H a xs) : SqT K H' a xs := (e.keep (ok := any)).seqT trivial h
theorem Same.upd {H : Hp} {p : Addr} {o : HO} (h : H p = none) : Same H (upd H p o) := fun b u e => by rw [upd_ne (ne_of_none e h)]; exact e
mutual
theorem DA.mono {K : PySem.W.Frag} {ok ok' : Addr → Prop} {H H' : Hp} (e : Keep ok H H') (m : ∀ a, ok a → ok' a) : ∀ {v : V} {d : PyData}, DA K ok H v d → DA K ok' H' v d
  | _, _, .non => .non
  | _, _, .bl b => .bl b
  | _, _, .int i => .int i
  | _, _, .str x => .str x
  | _, _, .lst n s r => .lst (m _ n) (e.seq n s) (DAs.mono e m r)
  | _, _, .tup n s r => .tup (m _ n) (e.seqT n s) (DAs.mono e m r)
theorem DAs.mono {K : PySem.W.Frag} {ok ok' : Addr → Prop} {H H' : Hp} (e : Keep ok H H') (m : ∀ a, ok a → ok' a) : ∀ {v : List V} {d : List PyData}, DAs K ok H v d → DAs K ok' H' v d
  | _, _, .nil => .nil
  | _, _, .cons a r => .cons (DA.mono e m a) (DAs.mono e m r)
end
mutual
theorem DA.reads {ok : Addr → Prop} {pins : List (Addr × Obj)} {σ : St} {H : Hp} {s : Shared} (I : Inv X pins σ H s) : ∀ {v : V} {d : PyData} {u : Value}, DA X.K ok H v d → RelV v u → ∃ as, Reads s.heap u d as
  | _, _, _, .non, r => by cases r; exact ⟨_, .none⟩
  | _, _, _, .bl b, r => by cases r; exact ⟨_, .bool b⟩
  | _, _, _, .int i, r => by obtain ⟨t, rfl⟩ := r; exact ⟨_, .int i t⟩
  | _, _, _, .str x, r => by obtain ⟨t, rfl⟩ := r; exact ⟨_, .str x t⟩
  | _, _, _, .lst _ h q, r => by
    cases r
    obtain ⟨its, rv, ⟨o, n, e, c, _, d⟩, _⟩ := I.list h
    obtain ⟨as, p⟩ := DAs.reads I q rv
    exact ⟨_, .list e c d (by simpa using p)⟩
  | _, _, _, .tup _ h q, r => by
    cases r
    obtain ⟨its, rv, ⟨o, e, c, n, d⟩, _⟩ := I.tuple h
    obtain ⟨as, p⟩ := DAs.reads I q rv
    exact ⟨_, .tuple e c d (by simpa using p)⟩
theorem DAs.reads {ok : Addr → Prop} {pins : List (Addr × Obj)} {σ : St} {H : Hp} {s : Shared} (I : Inv X pins σ H s) : ∀ {v : List V} {d : List PyData} {u : List Value}, DAs X.K ok H v d → Vals v u → ∃ as, ReadsAll s.heap u d as
  | _, _, _, .nil, r => by cases r; exact ⟨_, .nil⟩
  | _, _, _, .cons a q, r => by
    cases r with
    | cons r1 r2 =>
      obtain ⟨as, p⟩ := DA.reads I a r1
      obtain ⟨bs, p'⟩ := DAs.reads I q r2
      exact ⟨_, .cons p p'⟩
end
/-- == of two data -/
def rEqD (K : PySem.W.Frag) : R2 := fun x y H Q => ∃ d e, DA K any H x d ∧ DA K any H y e ∧ (d.canLay0 = true ∧ e.canLay0 = true ∧ d.depth ≤ 64) ∧ Q (.bl (PyData.eqv d e)) H
def rNeD (K : PySem.W.Frag) : R2 := fun x y H Q => ∃ d e, DA K any H x d ∧ DA K any H y e ∧ (d.canLay0 = true ∧ e.canLay0 = true ∧ d.depth ≤ 64) ∧ Q (.bl (!PyData.eqv d e)) H
theorem op_eqD (hu : X.A.units + 64 < cLine) : OpR X (compareOp .Eq) (rEqD X.K) := by
  intro pins s σ H x y v u Q I rx ry h
  obtain ⟨d, e, hd, he, ⟨l1, l2, l3⟩, q⟩ := h
  obtain ⟨as, p1⟩ := hd.reads I rx
  obtain ⟨bs, p2⟩ := he.reads I ry
  exact PySem.SeqAt.compareEq_reads p1 p2 l1 l2 (by omega) ⟨.bl _, H, I, rfl, q⟩
theorem op_neD (hu : X.A.units + 64 < cLine) : OpR X (compareOp .NotEq) (rNeD X.K) := by
  intro pins s σ H x y v u Q I rx ry h
  obtain ⟨d, e, hd, he, ⟨l1, l2, l3⟩, q⟩ := h
  obtain ⟨as, p1⟩ := hd.reads I rx
  obtain ⟨bs, p2⟩ := he.reads I ry
  exact PySem.SeqAt.compareNe_reads p1 p2 l1 l2 (by omega) ⟨.bl _, H, I, rfl, q⟩
end
theorem iteNP {c A B : Prop} [Decidable c] (hc : ¬ c) (h : A) : if (!decide c) = true then A else B := by
  rw [decide_eq_false hc]
  exact iteT h
theorem itDP {c A B : Prop} [Decidable c] (hc : c) (h : A) : if decide c = true then A else B := by
  rw [decide_eq_true hc]
  exact iteT h
theorem itDN {c A B : Prop} [Decidable c] (hc : ¬ c) (h : B) : if decide c = true then A else B := by
  rw [decide_eq_false hc]
  exact iteF h
/-! ### a def of the text that is called by its name -/
structure Dn (K : PySem.W.Frag) (mg : Str → Option Value) (x : Str) (st : Stmt) (ps : List Str) (f : Addr) (fd : FuncData) : Prop where
  fn : Fun K x x st f fd
  gl : mg x = some (.ref f)
  bd : Binds K fd ps []
section
variable {X : Cx} {k : Nat} {f : Addr} {fd : FuncData} {x : Str} {st : Stmt} {ps : List Str} {sp : Sp} {e : Expr} {es : List Expr} {p pos : Pos} {t : TA}
theorem pe_fn (D : Dn X.K X.mg x st ps f fd) (G : FnOk X.prog X.w X.K X.mg X.base CX0 k f fd ps sp) (hr : Room k X.A) (hg : Gl X x) (ha : PA X (e :: es) t) (hdb : (x == ("__debug__" : Str)) = false := by decide)
    (hs : starEach (e :: es) X.env = (false, eval e X.env) :: starEach es X.env := by rfl) (hpl : (backTo pos (starEach es X.env)).any (·.1) = false := by rfl) : PE X (.Call (.Name x p) (e :: es) [] pos) (tCall sp [] E0 t) := 
  pe_call G hr hg D.gl D.fn.kp D.bd .nil pass0 ha hdb hs hpl
end
end L2

/-! A LIST COMPREHENSION with one clause and no test; its name may be a cell (another one within captures it) -/
namespace L2
open PySem PySem.Spec PyProof.Rows
def blkN (N : List Str) (x : Str) : List Str := N.map (fun y => if y = x then Str.empty else y) ++ [x]
def clOf (cells : List (Str × Addr)) : List (Str × NameKind) → List (Str × Addr) → List (Str × Addr)
  | [], acc => acc
  | (n, k) :: r, acc => clOf cells r (if (k == .free) = true then (match cells.lookup n with | some c => (n, c) :: acc | none => acc) else acc)
structure LcScope (S : Scope) (N : List Str) (sc : Scope) (x : Str) : Prop where
  uniq : (sc.names.map (·.1)).Nodup
  kind : sc.kind = .function
  names : ∀ y ∈ sc.names, y.2 = .local → sc.names.lookup y.1 = some .local
  loc : sc.names.lookup x = some .local ∨ sc.names.lookup x = some .cell
  free : ∀ y ∈ sc.names, y.2 = .free → S.names.lookup y.1 = some .cell ∨ S.names.lookup y.1 = some .free
  only : ∀ y ∈ sc.names, y.2 = .local → y.1 = x ∨ y.1 = ".0"
  onlyC : ∀ y ∈ sc.names, y.2 = .cell → y.1 = x
  ne : ∀ y ∈ sc.names, y.1 ≠ Str.empty
  dot : ∀ y ∈ N, y ≠ ".0"
  nd : (blkN N x).Nodup
theorem lookup_relab {c : Str → NameKind → Bool} {y : Str} : ∀ (names : List (Str × NameKind)), (names.map fun (n, k) => if c n k = true then (n, NameKind.cell) else (n, k)).lookup y = (names.lookup y).map fun k => if c y k = true then NameKind.cell else k
  | [] => rfl
  | (n, k) :: r => by
    have ih := lookup_relab (c := c) (y := y) r
    show List.lookup y ((if c n k = true then (n, NameKind.cell) else (n, k)) :: _) = _
    cases hx : y == n with
    | true =>
      have e : y = n := by simpa using hx
      subst e
      by_cases hc : c y k = true
      · rw [if_pos hc]; simp [List.lookup_cons, hc]
      · rw [if_neg hc]; simp [List.lookup_cons, hc]
    | false =>
      by_cases hc : c n k = true
      · rw [if_pos hc]; simp only [List.lookup_cons, hx]; exact ih
      · rw [if_neg hc]; simp only [List.lookup_cons, hx]; exact ih
theorem relab_lookup {sc : Scope} {env : Env} {y : Str} {k : NameKind} (h : (relabel sc env).names.lookup y = some k) : ∃ k0, (y, k0) ∈ sc.names ∧ (k = k0 ∨ (k = .cell ∧ k0 = .free)) := by
  have e := lookup_relab (c := fun n k => k == NameKind.free && env.scope.kind == .function && env.kindOf n == some .cell) (y := y) sc.names
  have h' : (sc.names.map fun (n, k) => if (k == NameKind.free && env.scope.kind == .function && env.kindOf n == some .cell) = true then (n, NameKind.cell) else (n, k)).lookup y = some k := h
  rw [e] at h'
  cases q : sc.names.lookup y with
  | none => rw [q] at h'; cases h'
  | some k0 =>
    rw [q] at h'
    refine ⟨k0, PySem.mem_of_lookup q, ?_⟩
    have h'' : (if (k0 == NameKind.free && env.scope.kind == .function && env.kindOf y == some .cell) = true then NameKind.cell else k0) = k := Option.some.inj h'
    by_cases hc : (k0 == NameKind.free && env.scope.kind == .function && env.kindOf y == some .cell) = true
    · rw [if_pos hc] at h''
      refine .inr ⟨h''.symm, ?_⟩
      have := (Bool.and_eq_true_iff.mp (Bool.and_eq_true_iff.mp hc).1).1
      simpa using this
    · rw [if_neg hc] at h''
      exact .inl h''.symm
theorem clOf_sub {cells : List (Str × Addr)} : ∀ (names : List (Str × NameKind)) (acc : List (Str × Addr)), (∀ y c, acc.lookup y = some c → cells.lookup y = some c) → ∀ y c, (clOf cells names acc).lookup y = some c → cells.lookup y = some c
  | [], _, h => h
  | (n, k) :: r, acc, h => by
    refine clOf_sub r _ fun y c => ?_
    by_cases hk : (k == NameKind.free) = true
    · rw [if_pos hk]
      cases q : cells.lookup n with
      | none => exact h y c
      | some d =>
        intro e
        show cells.lookup y = some c
        have e' : List.lookup y ((n, d) :: acc) = some c := e
        rw [List.lookup_cons] at e'
        cases hx : y == n with
        | true =>
          rw [hx] at e'
          have : y = n := by simpa using hx
          subst this
          rw [q]; exact e'
        | false =>
          rw [hx] at e'
          exact h y c e'
    · rw [if_neg hk]
      exact h y c
theorem clOf_acc {cells : List (Str × Addr)} {y : Str} : ∀ (names : List (Str × NameKind)) (acc : List (Str × Addr)), (acc.lookup y).isSome = true → ((clOf cells names acc).lookup y).isSome = true
  | [], _, h => h
  | (n, k) :: r, acc, h => by
    refine clOf_acc r _ ?_
    by_cases hk : (k == NameKind.free) = true
    · rw [if_pos hk]
      cases q : cells.lookup n with
      | none => exact h
      | some d =>
        show (List.lookup y ((n, d) :: acc)).isSome = true
        rw [List.lookup_cons]
        cases hx : y == n with
        | true => rfl
        | false => exact h
    · rw [if_neg hk]; exact h
theorem clOf_has {cells : List (Str × Addr)} {y : Str} (hc : (cells.lookup y).isSome = true) : ∀ (names : List (Str × NameKind)) (acc : List (Str × Addr)), (y, NameKind.free) ∈ names → ((clOf cells names acc).lookup y).isSome = true
  | (n, k) :: r, acc, h => by
    rcases List.mem_cons.mp h with e | h
    · cases e
      refine clOf_acc r _ ?_
      rw [if_pos (by rfl)]
      obtain ⟨c, q⟩ := Option.isSome_iff_exists.mp hc
      rw [q]
      show (List.lookup y ((y, c) :: acc)).isSome = true
      rw [List.lookup_cons, beq_self_eq_true]
      rfl
    · exact clOf_has hc r _ h
theorem cellOf_some {env : Env} {y : Str} {c : Addr} (h : env.cells.lookup y = some c) : cellOf env y = pure c := by
  unfold cellOf
  rw [h]
theorem closure_of {sc : Scope} {env : Env} (h : ∀ y ∈ sc.names, y.2 = .free → (env.cells.lookup y.1).isSome = true) : closureFor sc env = pure (clOf env.cells sc.names []) := by
  have all : ∀ (names : List (Str × NameKind)) (acc : List (Str × Addr)), (∀ y ∈ names, y.2 = .free → (env.cells.lookup y.1).isSome = true) →
      (forIn names acc fun (x : Str × NameKind) (cs : List (Str × Addr)) => (do
        let (name, kind) := x
        if (kind == .free) = true then let c ← cellOf env name; pure (ForInStep.yield ((name, c) :: cs)) else pure (ForInStep.yield cs) : Sem (ForInStep (List (Str × Addr))))) = pure (clOf env.cells names acc) := by
    intro names
    induction names with
    | nil => intro acc _; rfl
    | cons a r ih =>
      intro acc hh
      obtain ⟨n, k⟩ := a
      rw [List.forIn_cons]
      by_cases hk : (k == NameKind.free) = true
      · obtain ⟨c, q⟩ := Option.isSome_iff_exists.mp (hh (n, k) List.mem_cons_self (by simpa using hk))
        simp only [hk, if_true, cellOf_some q, pure_bind]
        rw [ih _ fun y hy => hh y (List.mem_cons_of_mem _ hy)]
        show pure (clOf env.cells r ((n, c) :: acc)) = pure (clOf env.cells r (if (k == NameKind.free) = true then _ else acc))
        rw [if_pos hk, q]
      · simp only [hk, Bool.false_eq_true, if_false, pure_bind]
        rw [ih _ fun y hy => hh y (List.mem_cons_of_mem _ hy)]
        show pure (clOf env.cells r acc) = pure (clOf env.cells r (if (k == NameKind.free) = true then _ else acc))
        rw [if_neg hk]
  unfold closureFor
  first
    | exact (congrArg (fun z => z >>= pure) (all sc.names [] h)).trans (by simp)
    | (have e := all sc.names [] h
       simp only [bind_pure] at e ⊢
       exact e)
/-- the cell of the comprehension's own name -/
def ownC (sc : Scope) (x : Str) (n : Nat) : List (Str × Addr) := if sc.names.lookup x = some .cell then [(x, n)] else []
/-- the block of a comprehension -/
def Cx.blk (X : Cx) (N' : List Str) (sc : Scope) (x : Str) (s₀ : Shared) (H₀ : Hp) (fp : List Addr) : Cx :=
  { X with N := N', s₀ := s₀, H₀ := H₀, env := compEnvC sc (ownC sc x (s₀.heap.objs.size + 1) ++ clOf X.env.cells sc.names []) s₀.heap.objs.size X.env, outer := X.stack, stack := X.stack, ex := fp, fn := fun y => decide (y = x ∧ sc.names.lookup x = some .cell), pn := [], xe := fun _ _ => False }
theorem cellsFrom_none {acc : List (Str × Addr)} : ∀ {names : List (Str × NameKind)} {n : Nat}, (∀ y ∈ names, y.2 ≠ .cell) → cellsFrom n names acc = acc
  | [], _, _ => rfl
  | (y, k) :: r, n, h => by
    unfold cellsFrom
    rw [if_neg (by simpa using h (y, k) List.mem_cons_self)]
    exact cellsFrom_none fun z hz => h z (List.mem_cons_of_mem _ hz)
theorem pushCells_none : ∀ {names : List (Str × NameKind)} {h : Heap}, (∀ y ∈ names, y.2 ≠ .cell) → pushCells h names = h
  | [], _, _ => rfl
  | (y, k) :: r, h, hn => by
    unfold pushCells
    rw [if_neg (by simpa using hn (y, k) List.mem_cons_self)]
    exact pushCells_none fun z hz => hn z (List.mem_cons_of_mem _ hz)
theorem newEnv_lc {M : Model} {A : Around} {E : Value → Shared → Prop} {s : Shared} {scope : Scope} {globals : Addr} {closure : List (Str × Addr)} {qual : Str} {func : Option Addr} {code : Value} {outer : Env} {builtins : Addr} {Q : Env → Shared → Prop}
    (hQ : Q (newEnv scope s.heap.objs.size globals (cellsFrom (s.heap.objs.size + 1) scope.names closure) qual func code (some outer) builtins) { s with heap := pushCells (s.heap.push { cls := .type "dict", data := .dict #[] }) scope.names }) :
    wpAny M A (newFunctionEnv scope globals closure [] qual func code (some outer) builtins) Q E s := by
  simp only [newFunctionEnv, Option.isSome_some, if_true]
  refine wpAny_bind (wpAny_alloc ?_)
  refine wpAny_bind (wpAny_layCells _ (fun name kind cells => by cases hkc : kind == NameKind.cell <;> simp [hkc]) _ _ _ _ ?_)
  rw [show ({ s with heap := s.heap.push { cls := .type "dict", data := .dict #[] } } : Shared).heap.objs.size = s.heap.objs.size + 1 from Heap.size_push ..]
  exact wpAny_bind (wpAny_pure (wpAny_pure hQ))
section
variable {X : Cx} {pins : List (Addr × Obj)} {σ : St} {H : Hp} {s : Shared} {sc : Scope} {x : Str} {fp : List Addr}
/-- the reading: W turn measure items heap -/
def tLc (ti : TI) (te : TE) : TE := fun σ H Q => ti σ H fun J H1 => ∀ D, H1 D = none → ∃ W : Nat → Nat → List V → Hp → Prop, (∃ m, W 0 m [] (upd H1 D (.lst []))) ∧
  ∀ i m ys H', W i m ys H' → H' D = some (.lst ys) ∧ ((J.stop i H' ∧ Q (.ref D) H') ∨ (J.go i H' ∧ ∀ z H2, J.yld i H' z H2 → te (σ ++ [some z]) H2 fun v H3 => H3 D = some (.lst ys) ∧ ys.length < sizeLine ∧ ∃ m', m' < m ∧ W (i + 1) m' (ys ++ [v]) (upd H3 D (.lst (ys ++ [v])))))
end
end L2

/-! sorted of a list of ints; range(n) as a value, list(range(n)) -/
namespace L2
open PySem PySem.Spec PyProof.Rows
section
variable {X : Cx}
end
end L2

/-! the forms of a comprehension that one uses -/
namespace L2
open PySem PySem.Spec PyProof.Rows
theorem lc_list {K : PySem.W.Frag} {a : Addr} {xs : List V} {te : TE} {Q : Hp → Prop} {σ : St} {H1 : Hp} {D : Addr} (Pv : Nat → List V → Hp → Prop) (h0 : Pv 0 [] (upd H1 D (.lst []))) (hl : ∀ i ys H', i ≤ xs.length → Pv i ys H' → SqL K H' a xs ∧ H' D = some (.lst ys))
    (hs : ∀ i x ys H', xs[i]? = some x → Pv i ys H' → te (σ ++ [some x]) H' fun v H3 => H3 D = some (.lst ys) ∧ ys.length < sizeLine ∧ Pv (i + 1) (ys ++ [v]) (upd H3 D (.lst (ys ++ [v])))) (hd : ∀ ys H', Pv xs.length ys H' → Q H')
    (mono : ∀ σ H Q Q', (∀ v H1, Q v H1 → Q' v H1) → te σ H Q → te σ H Q') :
    ∃ W : Nat → Nat → List V → Hp → Prop, (∃ m, W 0 m [] (upd H1 D (.lst []))) ∧
      ∀ i m ys H', W i m ys H' → H' D = some (.lst ys) ∧ (((Itl K a).stop i H' ∧ Q H') ∨ ((Itl K a).go i H' ∧ ∀ z H2, (Itl K a).yld i H' z H2 → te (σ ++ [some z]) H2 fun v H3 => H3 D = some (.lst ys) ∧ ys.length < sizeLine ∧ ∃ m', m' < m ∧ W (i + 1) m' (ys ++ [v]) (upd H3 D (.lst (ys ++ [v]))))) := by
  refine ⟨fun i m ys H' => m = xs.length - i ∧ i ≤ xs.length ∧ Pv i ys H', ⟨xs.length, by simp, Nat.zero_le _, h0⟩, ?_⟩
  rintro i m ys H' ⟨rfl, hi, p⟩
  obtain ⟨q, eD⟩ := hl i ys H' hi p
  refine ⟨eD, ?_⟩
  by_cases hlt : i < xs.length
  · refine .inr ⟨⟨xs, xs[i], q, by simp [hlt]⟩, fun z H2 y => ?_⟩
    obtain ⟨e, y⟩ := y
    subst e
    refine mono _ _ _ _ (fun v H3 ⟨z1, z2, z3⟩ => ⟨z1, z2, xs.length - (i + 1), by omega, rfl, hlt, z3⟩) (hs i z ys _ (y xs q) p)
  · have e : i = xs.length := by omega
    subst e
    exact .inl ⟨⟨xs, q, Nat.le_refl _⟩, hd ys H' p⟩
theorem lc_range {lo : Int} {n : Nat} {te : TE} {Q : Hp → Prop} {σ : St} {H1 : Hp} {D : Addr} (Pv : Nat → List V → Hp → Prop) (h0 : Pv 0 [] (upd H1 D (.lst []))) (hl : ∀ i ys H', i ≤ n → Pv i ys H' → H' D = some (.lst ys))
    (hs : ∀ i ys H', i < n → Pv i ys H' → te (σ ++ [some (.int (lo + (i : Nat)))]) H' fun v H3 => H3 D = some (.lst ys) ∧ ys.length < sizeLine ∧ Pv (i + 1) (ys ++ [v]) (upd H3 D (.lst (ys ++ [v])))) (hd : ∀ ys H', Pv n ys H' → Q H')
    (mono : ∀ σ H Q Q', (∀ v H1, Q v H1 → Q' v H1) → te σ H Q → te σ H Q') :
    ∃ W : Nat → Nat → List V → Hp → Prop, (∃ m, W 0 m [] (upd H1 D (.lst []))) ∧
      ∀ i m ys H', W i m ys H' → H' D = some (.lst ys) ∧ (((Itr lo n).stop i H' ∧ Q H') ∨ ((Itr lo n).go i H' ∧ ∀ z H2, (Itr lo n).yld i H' z H2 → te (σ ++ [some z]) H2 fun v H3 => H3 D = some (.lst ys) ∧ ys.length < sizeLine ∧ ∃ m', m' < m ∧ W (i + 1) m' (ys ++ [v]) (upd H3 D (.lst (ys ++ [v]))))) := by
  refine ⟨fun i m ys H' => m = n - i ∧ i ≤ n ∧ Pv i ys H', ⟨n, by simp, Nat.zero_le _, h0⟩, ?_⟩
  rintro i m ys H' ⟨rfl, hi, p⟩
  refine ⟨hl i ys H' hi p, ?_⟩
  by_cases hlt : i < n
  · refine .inr ⟨hlt, fun z H2 y => ?_⟩
    obtain ⟨e, y⟩ := y
    subst e y
    refine mono _ _ _ _ (fun v H3 ⟨z1, z2, z3⟩ => ⟨z1, z2, n - (i + 1), by omega, rfl, hlt, z3⟩) (hs i ys _ hlt p)
  · have e : i = n := by omega
    subst e
    exact .inl ⟨Nat.le_refl _, hd ys H' p⟩
end L2

/-! sum of a list of ints -/
namespace L2
open PySem PySem.Spec PyProof.Rows
section
variable {X : Cx}
theorem call_sum (hc : X.calm = true) : CallR X (.builtin "sum") (fun xs H Q => ∃ (p : Addr) (ns : List Int), xs = [.ref p] ∧ SqL X.K H p (ns.map V.int) ∧ Q (.int ns.sum) H) := by
  intro pins s σ H xs us Q I r h
  obtain ⟨p, ns, rfl, hq, q⟩ := h
  obtain ⟨u, rfl, rx⟩ := vals1 r
  cases rx
  obtain ⟨its, rv, pl, hz⟩ := I.list hq
  have hI : IntsAre its ns := intsAre_of rv
  obtain ⟨ys, hx⟩ := hI.allInts.items
  have hl' : s.heap.IsList p (intItems ys) := hx ▸ pl.isList
  refine sum_intListG (I.ok.hd hc) hl' fun h' tk t' hk => ?_
  have e1 : ns = ys.toList.map (·.1) := by
    rw [← nums_intItems, ← hx]
    exact (show numsOf its.toArray.toList = ns from hI.numsOf).symm
  have e2 : preSum (numAt ys) ys.size = ns.sum := by
    rw [preSum_eq, List.take_of_length_le (by simp), e1]
  rw [e2]
  exact ⟨.int ns.sum, H, I.kept hk, ⟨_, rfl⟩, q⟩
end
end L2

/-! zip of two lists, walked by a tuple of names; a table of the module by texts -/
namespace L2
open PySem PySem.Spec PyProof.Rows
section
variable {X : Cx} {pins : List (Addr × Obj)} {σ : List (Option V)} {H : Hp} {s : Shared} {h' : Heap}
theorem Inv.turnedL {t' : Nat} {its : List Addr} (I : Inv X pins σ H s) (k : ∀ b o, b ∉ its → s.heap.get? b = some o → h'.get? b = some o) (hf : ∀ b ∈ its, FpOk X pins H b) : Inv X pins σ H { s with heap := h', toks := t' } := by
  have nit : ∀ b u, H b = some u → b ∉ its := fun b u e z => by rw [(hf b z).1] at e; cases e
  refine I.step (g' := s.gens) (d' := s.drawn) (ch := its) (fun b hb => ?_) (fun b o _ _ hc e _ => k b o hc e) (fun b o _ _ hc e _ => ⟨o.slots, k b o hc e⟩) (fun _ _ _ _ n => n)
    (fun b o hc e => ⟨o, k b o hc e⟩) (fun _ _ e => e) (fun _ _ _ e => e) (fun b ps e => ⟨#[], by rw [e]; simp⟩) (fun m hm => ?_) (fun b u e => ?_) I.bare
  · obtain ⟨f0, f1, f2, f3, f4, f5⟩ := hf b hb
    exact ⟨f3, f1, f4, f5⟩
  · obtain ⟨o, es, ep, ho, r⟩ := hm
    exact ⟨o, es, ep, k _ o (fun z => (hf _ z).2.1 rfl) ho, r⟩
  · refine (I.hok b u e).stay (fun c v hc q => k c v ?_ q) (fun _ q => q) fun _ _ q => q
    rcases hc with z | z
    · rw [z]; exact nit b u e
    · exact nit c _ z
end
def Itz (K : PySem.W.Frag) (a b : Addr) : It :=
  ⟨fun i H => ∃ xs ys x y, SqL K H a xs ∧ SqL K H b ys ∧ xs[i]? = some x ∧ ys[i]? = some y,
   fun i H z H' => ∃ t x y, z = .ref t ∧ H t = none ∧ H' = upd H t (.tup [x, y]) ∧ (∀ xs, SqL K H a xs → xs[i]? = some x) ∧ ∀ ys, SqL K H b ys → ys[i]? = some y,
   fun i H => ∃ xs ys, SqL K H a xs ∧ SqL K H b ys ∧ (xs.length ≤ i ∨ ys.length ≤ i)⟩
structure Ap5 (z TI TO i1 i2 : Addr) : Prop where
  a1 : TI ≠ z
  a2 : TO ≠ z
  a3 : i1 ≠ z
  a4 : i2 ≠ z
  a5 : TI ≠ TO
  a6 : TI ≠ i1
  a7 : TI ≠ i2
  a8 : TO ≠ i1
  a9 : TO ≠ i2
  b1 : i1 ≠ i2
def ZSt (z TI TO i1 i2 a b : Addr) (i : Nat) (h : Heap) : Prop := IsZip h z TI TO .none ∧ IsPair h TI (.ref i1) (.ref i2) ∧ (∃ c d, IsPair h TO c d) ∧ h.IsListIter i1 a i ∧ h.IsListIter i2 b i
theorem cls_ne {h : Heap} {a b : Addr} {o o' : Obj} (e : h.get? a = some o) (e' : h.get? b = some o') (n : o.cls ≠ o'.cls) : a ≠ b := fun z => by
  subst z
  rw [e] at e'
  cases e'
  exact n rfl
theorem zap {h : Heap} {z TI TO i1 i2 a b : Addr} {i : Nat} {xs ys : Array Value} (D : Ap5 z TI TO i1 i2) (st : ZSt z TI TO i1 i2 a b i h) (ha : h.IsList a xs) (hb : h.IsList b ys) : ZipApart z TI TO i1 i2 a b := by
  obtain ⟨hz, hTI, ⟨c, d, hTO⟩, ⟨o1, e1, c1, _⟩, ⟨o2, e2, c2, _⟩⟩ := st
  obtain ⟨oa, ea, ca, _⟩ := ha
  obtain ⟨ob, eb, cb, _⟩ := hb
  exact ⟨D.a1, D.a2, D.a3, D.a4, D.a5, D.a6, D.a7, D.a8, D.a9, D.b1,
    cls_ne ea hz (by rw [ca]; show Value.type "list" ≠ Value.type "zip"; decide), cls_ne ea hTO (by rw [ca]; show Value.type "list" ≠ Value.type "tuple"; decide), cls_ne ea e1 (by rw [ca, c1]; decide), cls_ne ea e2 (by rw [ca, c2]; decide),
    cls_ne eb hz (by rw [cb]; show Value.type "list" ≠ Value.type "zip"; decide), cls_ne eb hTO (by rw [cb]; show Value.type "list" ≠ Value.type "tuple"; decide), cls_ne eb e1 (by rw [cb, c1]; decide), cls_ne eb e2 (by rw [cb, c2]; decide)⟩
theorem turn_zip {P : Program} {w : World} {K : PySem.W.Frag} {elts : List Expr} {ek : Nat} {epos : Pos} {z TI TO i1 i2 a b : Addr} (D : Ap5 z TI TO i1 i2) : Turn P w K (.Tuple elts ek epos) (Itz K a b) [z, TI, TO, i1, i2] z (ZSt z TI TO i1 i2 a b) where
  mem := by simp
  obj := fun i h st c hc => by
    obtain ⟨hz, hTI, ⟨p, q, hTO⟩, ⟨o1, e1, c1, d1⟩, ⟨o2, e2, c2, d2⟩⟩ := st
    have hc' : c = z ∨ c = TI ∨ c = TO ∨ c = i1 ∨ c = i2 := by simpa using hc
    rcases hc' with rfl | rfl | rfl | rfl | rfl
    · exact ⟨_, hz, fun v e => by cases e⟩
    · exact ⟨_, hTI, fun v e => by cases e⟩
    · exact ⟨_, hTO, fun v e => by cases e⟩
    · exact ⟨_, e1, fun v e => by rw [d1] at e; cases e⟩
    · exact ⟨_, e2, fun v e => by rw [d2] at e; cases e⟩
  keep := fun i h h' st k => by
    obtain ⟨hz, hTI, ⟨p, q, hTO⟩, l1, l2⟩ := st
    exact ⟨k z (by simp) _ hz, k TI (by simp) _ hTI, ⟨p, q, k TO (by simp) _ hTO⟩, l1.at fun o e => k i1 (by simp) o e, l2.at fun o e => k i2 (by simp) o e⟩
  item := by
    intro X hP hw hK hc i pins s σ H E I hf st hg
    subst hP hw hK
    obtain ⟨xs, ys, x, y, hx, hy, ex, ey⟩ := hg
    obtain ⟨ia, ra, pa, za⟩ := I.list hx
    obtain ⟨ib, rb, pb, zb⟩ := I.list hy
    obtain ⟨u, hu, ru⟩ := ra.get ex
    obtain ⟨v, hv, rv⟩ := rb.get ey
    have A := zap D st pa.isList pb.isList
    have stl := st
    obtain ⟨hz, hTI, ⟨p, q, hTO⟩, l1, l2⟩ := st
    refine wpAny_pyNext_zip_item A hz hTI hTO l1 l2 pa.isList pb.isList (x := u) (y := v) (by simpa using hu) (by simpa using hv) fun h' a1 a2 a3 a4 a5 a6 a7 => ?_
    refine ⟨_, rfl, wpAny_letOwnedTupleGo_zip a1 fun h2 b1 b2 => ?_⟩
    have hT : H s.heap.objs.size = none := I.hok.fresh (Nat.le_refl _)
    have ltz : ∀ c o, s.heap.get? c = some o → s.heap.objs.size ≠ c := fun c o e => Nat.ne_of_gt (Heap.lt_size e)
    have hTI' := a7 _ _ D.a1 D.a5 D.a6 D.a7 hTI
    have Tz : s.heap.objs.size ≠ z := ltz _ _ hz
    have aT : h2.get? s.heap.objs.size = some { cls := .type "tuple", data := .seq #[u, v] } := b2.extBut _ _ Tz a5
    have k2 : ∀ c o, c ≠ z → c ≠ TO → c ≠ i1 → c ≠ i2 → s.heap.get? c = some o → h2.get? c = some o := fun c o n1 n2 n3 n4 e => b2.extBut _ _ n1 (a7 c o n1 n2 n3 n4 e)
    have I1 : Inv X pins σ (upd H s.heap.objs.size (.tup [x, y])) { s with heap := s.heap.push { cls := .type "tuple", data := .seq #[u, v] } } := by
      refine I.laid (t' := s.toks) (fun c o e => Heap.get?_push_of_some _ e) (Nat.le_refl _) ?_
      exact ⟨(by show 2 ≤ sizeLine; decide), [u, v], .cons ru (.cons rv .nil), IsTup.new s.heap _⟩
    have hf1 : ∀ c ∈ [z, TI, TO, i1, i2], FpOk X pins (upd H s.heap.objs.size (.tup [x, y])) c := fun c hc' => by
      obtain ⟨f0, f⟩ := hf c hc'
      refine ⟨?_, f⟩
      have : ∃ o, s.heap.get? c = some o := by
        have hc'' : c = z ∨ c = TI ∨ c = TO ∨ c = i1 ∨ c = i2 := by simpa using hc'
        obtain ⟨o1, e1, _⟩ := l1
        obtain ⟨o2, e2, _⟩ := l2
        rcases hc'' with rfl | rfl | rfl | rfl | rfl
        · exact ⟨_, hz⟩
        · exact ⟨_, hTI⟩
        · exact ⟨_, hTO⟩
        · exact ⟨_, e1⟩
        · exact ⟨_, e2⟩
      obtain ⟨o, e⟩ := this
      rw [upd_ne (ltz c o e).symm]
      exact f0
    have I2 : Inv X pins σ (upd H s.heap.objs.size (.tup [x, y])) { s with heap := h2 } := by
      refine Inv.turnedL (s := { s with heap := s.heap.push { cls := .type "tuple", data := .seq #[u, v] } }) (h' := h2) (t' := s.toks) (its := [z, TI, TO, i1, i2]) I1 (fun c o hc' e => ?_) hf1
      have hc'' : ¬ (c = z ∨ c = TI ∨ c = TO ∨ c = i1 ∨ c = i2) := by simpa using hc'
      by_cases hcs : c = s.heap.objs.size
      · subst hcs
        have e' : (s.heap.push { cls := .type "tuple", data := .seq #[u, v] }).get? s.heap.objs.size = some o := e
        rw [Heap.get?_push_size _ rfl] at e'
        cases e'
        exact aT
      · have hlt : c < (s.heap.push { cls := .type "tuple", data := .seq #[u, v] }).objs.size := Heap.lt_size e
        rw [Heap.size_push] at hlt
        refine k2 c o (fun z' => hc'' (.inl z')) (fun z' => hc'' (.inr (.inr (.inl z')))) (fun z' => hc'' (.inr (.inr (.inr (.inl z'))))) (fun z' => hc'' (.inr (.inr (.inr (.inr z'))))) ?_
        rw [← e]
        exact (Heap.get?_push_ne _ _ _ hcs).symm
    refine ⟨.ref s.heap.objs.size, _, I2, rfl, ⟨_, x, y, rfl, hT, rfl, fun ws hw => by rw [I.list_inj hw hx]; exact ex, fun ws hw => by rw [I.list_inj hw hy]; exact ey⟩, ?_, fun c hc' => (hf1 c hc').1⟩
    exact ⟨b1, b2.extBut _ _ D.a1 hTI', ⟨_, _, b2.extBut _ _ D.a2 a2⟩, a3.extBut b2.extBut D.a3, a4.extBut b2.extBut D.a4⟩
  done := by
    intro X hP hw hK hc i pins s σ H E I hf st hg
    subst hP hw hK
    obtain ⟨xs, ys, hx, hy, hl⟩ := hg
    obtain ⟨ia, ra, pa, za⟩ := I.list hx
    obtain ⟨ib, rb, pb, zb⟩ := I.list hy
    have A := zap D st pa.isList pb.isList
    have hla := ra.length
    have hlb := rb.length
    obtain ⟨hz, hTI, ⟨p, q, hTO⟩, l1, l2⟩ := st
    refine wpAny_pyNext_zip_end (I.ok.hd hc) A hz hTI hTO l1 l2 pa.isList pb.isList (by
      rcases hl with hl | hl
      · exact .inl (by simp; omega)
      · exact .inr (by simp; omega)) fun h' k => ⟨rfl, ?_⟩
    exact I.turnedL (t' := s.toks) (its := [z, TI, TO, i1, i2]) (fun c o hc' e => by
      have hc'' : ¬ (c = z ∨ c = TI ∨ c = TO ∨ c = i1 ∨ c = i2) := by simpa using hc'
      exact k c o (fun z' => hc'' (.inl z')) (fun z' => hc'' (.inr (.inr (.inl z')))) (fun z' => hc'' (.inr (.inr (.inr (.inl z'))))) (fun z' => hc'' (.inr (.inr (.inr (.inr z'))))) e) hf
  self := fun _ _ _ _ _ st h => wpAny_pyIter_zip st.1 h
section
variable {X : Cx}
def iZip (K : PySem.W.Frag) (ta : TA) : TI := fun σ H R => ta σ H fun vs H1 => ∃ a b, vs = [.ref a, .ref b] ∧ (∃ xs, SqL K H1 a xs) ∧ (∃ ys, SqL K H1 b ys) ∧ R (Itz K a b) H1
theorem boot_zip : bootBuiltins "zip" = some (.type "zip") := by decide +kernel
theorem pi_zip {elts : List Expr} {ek : Nat} {epos : Pos} {a b : Expr} {ta : TA} {p pos : Pos} (hg : Gl X "zip") (hm : X.mg "zip" = none) (ha : PA X [a, b] ta) (hs : starEach [a, b] X.env = [(false, eval a X.env), (false, eval b X.env)] := by rfl) (hs2 : starEach [b] X.env = [(false, eval b X.env)] := by rfl) :
    PI X (.Tuple elts ek epos) (.Call (.Name "zip" p) [a, b] [] pos) (iZip X.K ta) := by
  intro pins s σ H R I h
  refine Call_ (ld_blt I hg hm boot_zip (PyProof.Rows.callWith_type1 (thn (ha pos pins s σ H _ I h) fun us s1 ⟨vs, H1, I1, r1, q1⟩ => ?_) (by rw [hs, hs2]) (by rw [hs2]; rfl)))
  obtain ⟨l1, l2, e, ⟨xs, hx⟩, ⟨ys, hy⟩, q⟩ := q1
  subst e
  obtain ⟨u, v, rfl, ru, rv⟩ := vals2 r1
  cases ru
  cases rv
  obtain ⟨ia, ra, pa, za⟩ := I1.list hx
  obtain ⟨ib, rb, pb, zb⟩ := I1.list hy
  refine call_zip_2 pa.isList pb.isList fun h' hz hTI hTO hi1 hi2 hsz hk => wpAny_pyIter_zip hz ?_
  have fr : ∀ b, s1.heap.objs.size ≤ b → FpOk X pins H1 b := fun b hb => I1.fpOk hb (I1.hok.fresh hb)
  refine ⟨_, [s1.heap.objs.size + 4, s1.heap.objs.size + 2, s1.heap.objs.size + 3, s1.heap.objs.size, s1.heap.objs.size + 1], _, _, H1, rfl, I1.kept (t' := s1.toks) hk,
    turn_zip (TI := s1.heap.objs.size + 2) (TO := s1.heap.objs.size + 3) (i1 := s1.heap.objs.size) (i2 := s1.heap.objs.size + 1) (a := l1) (b := l2) ?_, ⟨hz, hTI, ⟨_, _, hTO⟩, hi1, hi2⟩, fun b hb => ?_, q⟩
  · generalize s1.heap.objs.size = n
    have ne : ∀ {x y : Nat}, x ≠ y → (n + x : Nat) ≠ n + y := fun h e => h (Nat.add_left_cancel e)
    exact ⟨ne (by decide), ne (by decide), ne (x := 0) (by decide), ne (by decide), ne (by decide), ne (y := 0) (by decide), ne (by decide), ne (y := 0) (by decide), ne (by decide), ne (x := 0) (by decide)⟩
  · have hb' : b = s1.heap.objs.size + 4 ∨ b = s1.heap.objs.size + 2 ∨ b = s1.heap.objs.size + 3 ∨ b = s1.heap.objs.size ∨ b = s1.heap.objs.size + 1 := by simpa using hb
    rcases hb' with rfl | rfl | rfl | rfl | rfl
    · exact fr _ (Nat.le_add_right _ _)
    · exact fr _ (Nat.le_add_right _ _)
    · exact fr _ (Nat.le_add_right _ _)
    · exact fr _ (Nat.le_refl _)
    · exact fr _ (Nat.le_add_right _ _)
/-! ### a table of the module: texts to ints -/
def tabD (D : List (Str × Int)) : List (Str × PyProof.Rows.KTD.Dat) := D.map fun p => (p.1, .flat (.int p.2))
structure TabK (K : PySem.W.Frag) (a : Addr) (D : List (Str × Int)) : Prop where
  lk : PyProof.Rows.KTD.tabLook (PyProof.Rows.KTD.datLooks fun b => K.lookup b) (fun b => K.lookup b) a (tabD D) = true
def rIxTab (a : Addr) (D : List (Str × Int)) : R2 := fun x y H Q => ∃ k i, x = .ref a ∧ y = .str k ∧ PyProof.Rows.KTD.datumAt k D = some i ∧ Q (.int i) H
theorem inKeys_tab {k : Str} {i : Int} : ∀ {D : List (Str × Int)}, PyProof.Rows.KTD.datumAt k D = some i → PyProof.Rows.KTD.inKeys k (tabD D) = true
  | [], h => by cases h
  | (x, d) :: D, h => by
    have h' : (if decide (k = x) = true then some d else PyProof.Rows.KTD.datumAt k D) = some i := h
    show (decide (k = x) || PyProof.Rows.KTD.inKeys k (tabD D)) = true
    by_cases e : k = x
    · rw [decide_eq_true e]; rfl
    · rw [decide_eq_false e] at h' ⊢
      exact inKeys_tab (by simpa using h')
theorem eachL_tab {h : Heap} {k : Str} {i : Int} {P : Value → Prop} (hp : ∀ t, P (.int i t)) : ∀ {D : List (Str × Int)}, PyProof.Rows.KTD.datumAt k D = some i → PyProof.Rows.KTD.EachL h k P (tabD D)
  | [], h => by cases h
  | [(x, d)], h => by
    have h' : (if decide (k = x) = true then some d else none) = some i := h
    refine PyProof.Rows.KTD.eachL_last fun e => ?_
    rw [if_pos (decide_eq_true e)] at h'
    cases h'
    exact PyProof.Rows.KTD.opened_int hp
  | (x, d) :: p :: D, h => by
    have h' : (if decide (k = x) = true then some d else PyProof.Rows.KTD.datumAt k (p :: D)) = some i := h
    refine PyProof.Rows.KTD.eachL_ite ?_
    by_cases e : k = x
    · rw [if_pos (decide_eq_true e)] at h' ⊢
      cases h'
      exact PyProof.Rows.KTD.opened_int hp
    · rw [if_neg (by simpa using e)] at h' ⊢
      exact eachL_tab hp h'
theorem plain_tab : ∀ D : List (Str × Int), ((tabD D).all fun p => PyProof.Rows.KTD.plain p.2) = true
  | [] => rfl
  | (x, d) :: D => plain_tab D
theorem ix_tab {a : Addr} {D : List (Str × Int)} (T : TabK X.K a D) : IxR X (rIxTab a D) := by
  intro value slice pins s σ H x y v u Q I rx ry h hs
  obtain ⟨k, i, rfl, rfl, hk, q⟩ := h
  cases rx
  obtain ⟨t, rfl⟩ := ry
  have TT : PyProof.Rows.KTD.TextTab X.base a (tabD D) := PyProof.Rows.KTD.text_of_look (fun b o e => I.mod.kin b o e) T.lk
  exact PyProof.Rows.KTD.item_textA ⟨TT, I.bk⟩ (plain_tab D) (inKeys_tab hk) (eachL_tab (fun t' => ⟨.int i, H, I.tok _, ⟨_, rfl⟩, q⟩) hk) hs
end
end L2

/-! LIST COMPREHENSIONS by one or two names (none of them a cell), with a test or without -/
namespace L2
open PySem PySem.Spec PyProof.Rows
def blkNs (N xs : List Str) : List Str := N.map (fun y => if y ∈ xs then Str.empty else y) ++ xs
structure LcScopes (S : Scope) (N : List Str) (sc : Scope) (xs : List Str) : Prop where
  uniq : (sc.names.map (·.1)).Nodup
  kind : sc.kind = .function
  names : ∀ y ∈ sc.names, y.2 = .local → sc.names.lookup y.1 = some .local
  loc : ∀ x ∈ xs, sc.names.lookup x = some .local
  free : ∀ y ∈ sc.names, y.2 = .free → S.names.lookup y.1 = some .cell ∨ S.names.lookup y.1 = some .free
  only : ∀ y ∈ sc.names, y.2 = .local → y.1 ∈ xs ∨ y.1 = ".0"
  noC : ∀ y ∈ sc.names, y.2 ≠ .cell
  ne : ∀ y ∈ sc.names, y.1 ≠ Str.empty
  dot : ∀ y ∈ N, y ≠ ".0"
  nd : (blkNs N xs).Nodup
def Cx.blks (X : Cx) (N' : List Str) (sc : Scope) (s₀ : Shared) (H₀ : Hp) (fp : List Addr) : Cx :=
  { X with N := N', s₀ := s₀, H₀ := H₀, env := compEnvC sc (clOf X.env.cells sc.names []) s₀.heap.objs.size X.env, outer := X.stack, stack := X.stack, ex := fp, fn := fun _ => false, pn := [], xe := fun _ _ => False }
section
variable {X : Cx} {pins : List (Addr × Obj)} {σ : St} {H : Hp} {s : Shared} {sc : Scope} {xs : List Str} {fp : List Addr}
theorem blkNs_len (N xs : List Str) : (blkNs N xs).length = N.length + xs.length := by simp [blkNs]
theorem blkNs_at {N xs : List Str} {i : Nat} {y : Str} (h : (blkNs N xs)[i]? = some y) (hi : i < N.length) : ∃ y0, N[i]? = some y0 ∧ ((y0 ∈ xs ∧ y = Str.empty) ∨ (y0 ∉ xs ∧ y = y0)) := by
  unfold blkNs at h
  rw [List.getElem?_append_left (by simpa using hi), List.getElem?_map] at h
  cases q : N[i]? with
  | none => rw [q] at h; cases h
  | some y0 =>
    rw [q] at h
    refine ⟨y0, rfl, ?_⟩
    have h' : (if y0 ∈ xs then Str.empty else y0) = y := Option.some.inj h
    by_cases e : y0 ∈ xs
    · rw [if_pos e] at h'; exact .inl ⟨e, h'.symm⟩
    · rw [if_neg e] at h'; exact .inr ⟨e, h'.symm⟩
theorem Inv.has_cells (I : Inv X pins σ H s) {S : Scope} (L : LcScopes S X.N sc xs) (hS : X.env.scope = S) : ∀ y ∈ sc.names, y.2 = .free → (X.env.cells.lookup y.1).isSome = true := fun y hy hf => by
  have k : X.env.kindOf y.1 = some .cell ∨ X.env.kindOf y.1 = some .free := by
    show X.env.scope.names.lookup y.1 = _ ∨ X.env.scope.names.lookup y.1 = _
    rw [hS]
    exact L.free y hy hf
  obtain ⟨c, e⟩ := I.ok.has y.1 k
  rw [e]; rfl
theorem Inv.blks (I : Inv X pins σ H s) {S : Scope} (L : LcScopes S X.N sc xs) (hS : X.env.scope = S) (hf : ∀ b ∈ fp, FpOk X pins H b) (hb : ∀ b ∈ fp, b < s.heap.objs.size) {h1 : Heap} {tk : Nat} {m : Str → Option Value} (hn : h1.Ns s.heap.objs.size m)
    (hk : ∀ b o, s.heap.get? b = some o → h1.get? b = some o) : Inv (X.blks (blkNs X.N xs) sc s H fp) [] (σ ++ xs.map fun _ => none) H { s with heap := h1, toks := tk } := by
  have sub : ∀ y c, (clOf X.env.cells sc.names []).lookup y = some c → X.env.cells.lookup y = some c := clOf_sub sc.names [] fun _ _ z => by cases z
  have hasC : ∀ y, (y, NameKind.free) ∈ sc.names → ∃ c, (clOf X.env.cells sc.names []).lookup y = some c := fun y hy =>
    Option.isSome_iff_exists.mp (clOf_has (I.has_cells L hS (y, .free) hy rfl) sc.names [] hy)
  have kinds : ∀ y k, (relabel sc X.env).names.lookup y = some k → (k = .cell ∨ k = .free) → (y, NameKind.free) ∈ sc.names := fun y k e hk => by
    obtain ⟨k0, hm, q⟩ := relab_lookup e
    rcases q with rfl | ⟨_, rfl⟩
    · rcases hk with rfl | rfl
      · exact absurd rfl (L.noC _ hm)
      · exact hm
    · exact hm
  have stk := I.stkSub
  refine ⟨⟨I.ok.mod, L.kind, I.ok.glob, I.ok.blt, Nat.le_refl _, fun y z c e1 e2 => ?_, fun y hy => ?_, fun y c z e => ?_, I.ok.hd, I.ok.frames, .inl rfl, fun b hb' => ?_, I.bs, Nat.le_trans I.ok.bsz I.sz, fun b o e hb' => ?_, fun b hb' z => ?_, I.stack, I.stkFree⟩,
    rfl, I.bare, Un.kept hk, ⟨m, hn, fun i y v e1 e2 e3 => ?_⟩, fun y c e => ?_, I.hok.fresh (Nat.le_refl _), fun y c e => ?_, fun p hp => absurd (show p ∈ ([] : List (Addr × Obj)) from hp) (by simp), I.hok.kept hk, ?_⟩
  · exact I.ok.inj y z c (sub y c e1) (sub z c e2)
  · have hy' : (relabel sc X.env).names.lookup y = some .cell ∨ (relabel sc X.env).names.lookup y = some .free := hy
    rcases hy' with e | e
    · exact hasC y (kinds y _ e (.inl rfl))
    · exact hasC y (kinds y _ e (.inr rfl))
  · exact absurd (show false = true from z) (by decide)
  · obtain ⟨f0, f1, f2, f3, f4, f5⟩ := hf b hb'
    exact ⟨Nat.ne_of_lt (hb b hb'), fun y c e z => f4 y c (sub y c e) z⟩
  · obtain ⟨f0, f1, f2, f3, f4, f5⟩ := hf b hb'
    rcases f3 with z | z
    · exact I.ok.noex b o e z
    · exact absurd (Nat.lt_of_lt_of_le (Heap.lt_size (I.ok.bs b o e).1) z) (Nat.lt_irrefl _)
  · obtain ⟨f0, f1, f2, f3, f4, f5⟩ := hf b hb'
    rcases List.mem_cons.mp (stk b z) with q | q
    · exact f1 q
    · exact f2 q
  · have hl : σ.length = X.N.length := I.len
    have hi : i < X.N.length := by
      by_cases hi : i < σ.length
      · omega
      · rw [List.getElem?_append_right (by omega), List.getElem?_map] at e2
        cases q : xs[i - σ.length]? with
        | none => rw [q] at e2; cases e2
        | some n => rw [q] at e2; cases e2
    rw [List.getElem?_append_left (by omega)] at e2
    obtain ⟨y0, g1, g2⟩ := blkNs_at e1 hi
    have vis : ∃ k, (relabel sc X.env).names.lookup y = some k ∧ (k = .local ∨ k = .cell ∨ k = .free) := by
      rcases e3 with q | q | q
      · exact ⟨_, q, .inl rfl⟩
      · exact ⟨_, q, .inr (.inl rfl)⟩
      · exact ⟨_, q, .inr (.inr rfl)⟩
    obtain ⟨k, q, hk'⟩ := vis
    obtain ⟨k0, hm, q0⟩ := relab_lookup q
    rcases g2 with ⟨_, rfl⟩ | ⟨g2, rfl⟩
    · exact absurd rfl (L.ne _ hm)
    · have hkc : k = .cell ∨ k = .free := by
        rcases hk' with rfl | z
        · exfalso
          rcases q0 with rfl | ⟨z, _⟩
          · rcases L.only _ hm rfl with z | z
            · exact g2 z
            · exact L.dot y (List.mem_of_getElem? g1) z
          · cases z
        · exact z
      have hfr : (y, NameKind.free) ∈ sc.names := kinds y k q hkc
      have visX : X.env.scope.names.lookup y = some .cell ∨ X.env.scope.names.lookup y = some .free := by rw [hS]; exact L.free _ hfr rfl
      obtain ⟨m0, _, hl0⟩ := I.loc
      obtain ⟨u, r, lk⟩ := hl0 i y v g1 e2 (.inr visX)
      refine ⟨u, r, ?_⟩
      rcases lk with ⟨z, _⟩ | ⟨_, c, ec, hc⟩
      · exfalso
        have z' : X.env.scope.names.lookup y = some .local := z
        rcases visX with w' | w' <;> rw [z'] at w' <;> cases w'
      · obtain ⟨c', ec'⟩ := hasC y hfr
        have : c' = c := Option.some.inj ((sub y c' ec').symm.trans ec)
        subst this
        refine .inr ⟨?_, c', ec', ?_⟩
        · rcases hkc with rfl | rfl
          · exact .inl q
          · exact .inr q
        · obtain ⟨o, ho, hd⟩ := hc
          exact ⟨o, hk _ _ ho, hd⟩
  · obtain ⟨v, o, ho, hd⟩ := I.cell y c (sub y c e)
    exact ⟨v, o, hk _ _ ho, hd⟩
  · exact I.freeC y c (sub y c e)
  · rw [List.length_append, List.length_map, I.len]
    exact (blkNs_len X.N xs).symm
/-- the tests of a clause -/
def PTs (X : Cx) (ifs : List Expr) (t : TT) : Prop :=
  ∀ (pins : List (Addr × Obj)) (s : Shared) (σ : St) (H : Hp) (Q : Bool → Hp → Prop), Inv X pins σ H s → t σ H Q →
    wpAny (model X.prog X.w) X.A (forIn ifs true fun c r => if r = true then do let ok ← isTrue c X.env (eval c X.env); pure (ForInStep.yield ok) else pure (ForInStep.yield r)) (TP X pins σ Q) X.xe s
def tYes : TT := fun _ H Q => Q true H
theorem pts_nil : PTs X [] tYes := fun _ _ _ H _ I h => wpAny_tests_nil ⟨H, I, h⟩
theorem pts_one {c : Expr} {t : TT} (h : PT X c t) : PTs X [c] t := fun pins s σ H Q I q => wpAny_tests_one (h pins s σ H Q I q)
theorem compLoopT {prog : Program} {w : World} {A : Around} {R : Result → Shared → Prop} {elt target iter : Expr} {ifs : List Expr} {scope : Scope} {pos : Pos} {it acc : Value} {env : Env} (I : Nat → Shared → Prop)
    (turn : ∀ n s, I n s → wpAny (model prog w) A (pyNext it) (fun r s₁ => match r with
      | none => R (.ok .next) s₁
      | some v => wpAny (model prog w) A (letOwnedTupleGo target it v) (fun _ s₁' => wpAny (model prog w) A (assign target env v) (fun _ s₂ =>
          wpAny (model prog w) A (forIn ifs true fun c r => if r = true then do let ok ← isTrue c env (eval c env); pure (ForInStep.yield ok) else pure (ForInStep.yield r)) (fun ok s₃ =>
            if ok = true then wpAny (model prog w) A (eval elt env) (fun x s₄ =>
              wpAny (model prog w) A (call (.builtin "list.append") [acc, x]) (fun _ s₅ => ∃ m, m < n ∧ I m s₅) (fun _ _ => False) s₄) (fun _ _ => False) s₃
            else ∃ m, m < n ∧ I m s₃) (fun _ _ => False) s₂) (fun _ _ => False) s₁') (fun _ _ => False) s₁) (fun _ _ => False) s)
    (n : Nat) (h : I n s) : codeAny (model prog w) A (.compLoop (.ListComp elt [⟨target, iter, ifs, 0⟩] scope pos) 0 it acc env) R s := by
  refine codeAny_loop rfl I (fun n s hI => ?_) n h
  show wpAny _ A ((compTurn (.ListComp elt [⟨target, iter, ifs, 0⟩] scope pos) 0 it acc env).onRaise (fun x => do noteFrame x env; theTreesLotGoes x)) _ _ s
  refine wpAny_noted ?_
  rw [compTurn_list]
  refine wpAny_bind (wpAny_standAt (wpAny_bind (wpAny_mono (turn n s hI) (fun r s₁ h₁ => ?_) fun _ _ z => z.elim)))
  cases r with
  | none => exact wpAny_pure h₁
  | some v =>
    refine wpAny_bind (wpAny_mono h₁ (fun _ s₁' h₁' => ?_) fun _ _ z => z.elim)
    refine wpAny_bind (wpAny_mono h₁' (fun _ s₂ h₂ => wpAny_bind (wpAny_mono h₂ (fun ok s₃ h₃ => ?_) fun _ _ z => z.elim)) fun _ _ z => z.elim)
    cases ok with
    | false => exact wpAny_pure ⟨rfl, h₃⟩
    | true =>
      exact wpAny_bind (wpAny_bind (wpAny_mono h₃ (fun x s₄ h₄ => wpAny_bind (wpAny_mono h₄ (fun _ s₅ h₅ => wpAny_pure (wpAny_pure ⟨rfl, h₅⟩)) fun _ _ z => z.elim)) fun _ _ z => z.elim))
/-- the reading: W turn measure items heap -/
def LcW (n : Nat) (J : It) (g : TG) (tt : TT) (te : TE) (σ : St) (H1 : Hp) (Q : VK) : Prop := ∀ D, H1 D = none → ∃ W : Nat → Nat → List V → Hp → Prop, (∃ m, W 0 m [] (upd H1 D (.lst []))) ∧
  ∀ i m ys H', W i m ys H' → H' D = some (.lst ys) ∧ ((J.stop i H' ∧ Q (.ref D) H') ∨ (J.go i H' ∧ ∀ z H2, J.yld i H' z H2 → ∀ os : St, os.length = n → g z (σ ++ os) H2 fun σ' H3 => (∃ os' : St, σ' = σ ++ os' ∧ os'.length = n) ∧ tt σ' H3 fun ok H4 =>
    if ok = true then te σ' H4 fun v H5 => H5 D = some (.lst ys) ∧ ys.length < sizeLine ∧ ∃ m', m' < m ∧ W (i + 1) m' (ys ++ [v]) (upd H5 D (.lst (ys ++ [v]))) else ∃ m', m' < m ∧ W (i + 1) m' ys H4))
def tLcs (n : Nat) (ti : TI) (g : TG) (tt : TT) (te : TE) : TE := fun σ H Q => ti σ H fun J H1 => LcW n J g tt te σ H1 Q
theorem lcs_core {elt iter target : Expr} {ifs : List Expr} {pos : Pos} {g : TG} {tt : TT} {te : TE} {S : Scope} {use : Option (Value → Sem Unit)} {QQ : Value → Shared → Prop} {Q : VK} {it : Addr} {tn : Nat → Heap → Prop} {J : It} (hc : X.calm = true) (L : LcScopes S X.N sc xs) (hS : X.env.scope = S)
    (hg : ∀ (s₀ : Shared) (H₀ : Hp) (fp : List Addr), PG (X.blks (blkNs X.N xs) sc s₀ H₀ fp) target g) (ht : ∀ (s₀ : Shared) (H₀ : Hp) (fp : List Addr), PTs (X.blks (blkNs X.N xs) sc s₀ H₀ fp) ifs tt)
    (he : ∀ (s₀ : Shared) (H₀ : Hp) (fp : List Addr), PE (X.blks (blkNs X.N xs) sc s₀ H₀ fp) elt te)
    (I : Inv X pins σ H s) (T : Turn X.prog X.w X.K target J fp it tn) (st : tn 0 s.heap) (hf : ∀ b ∈ fp, FpOk X pins H b) (h : LcW xs.length J g tt te σ H Q)
    (fin : ∀ (D C : Addr) (H' : Hp) (s' : Shared) (m : Str → Option Value), Inv X pins σ H' s' → Q (.ref D) H' → s'.heap.Ns C m → H' C = none → s.heap.objs.size ≤ C → (∀ p ∈ X.pn ++ pins, p.1 ≠ C) → C ≠ X.env.locals → (∀ y c, X.env.cells.lookup y = some c → c ≠ C) → compPost (model X.prog X.w) X.A X.xe use QQ (.ref D) C (.ok .next) s') :
    wpAny (model X.prog X.w) X.A (newList []) (fun acc s₃ => wpAny (model X.prog X.w) X.A (newFunctionEnv sc X.env.globals (clOf X.env.cells sc.names []) [] X.env.qual none .none (some X.env)) (fun cenv s₄ =>
      codeAny (model X.prog X.w) X.A (.compStart (.ListComp elt [⟨target, iter, ifs, 0⟩] sc pos) 0 (.ref it) acc { cenv with scope := relabel sc X.env }) (compPost (model X.prog X.w) X.A X.xe use QQ acc cenv.locals) s₄) X.xe s₃) X.xe s := by
  refine wpAny_newObj_type ?_
  have hD : H s.heap.objs.size = none := I.hok.fresh (Nat.le_refl _)
  obtain ⟨W, ⟨m0, w0⟩, turn⟩ := h s.heap.objs.size hD
  have I2 : Inv X pins σ (upd H s.heap.objs.size (.lst [])) { s with heap := s.heap.push { cls := .type "list", data := .seq ([] : List Value).toArray } } := I.lnew (t' := s.toks) .nil (Nat.zero_le _)
  have lt0 : ∀ b ∈ fp, b < s.heap.objs.size := fun b hb => by
    obtain ⟨o, e, _⟩ := T.obj 0 s.heap st b hb
    exact Heap.lt_size e
  have hf2 : ∀ b ∈ fp, FpOk X pins (upd H s.heap.objs.size (.lst [])) b := fun b hb => by
    obtain ⟨f0, f⟩ := hf b hb
    exact ⟨by rw [upd_ne (Nat.ne_of_lt (lt0 b hb))]; exact f0, f⟩
  have st2 : tn 0 (s.heap.push { cls := .type "list", data := .seq ([] : List Value).toArray }) := T.keep 0 _ _ st fun b _ o e => Heap.get?_push_of_some _ e
  generalize hs2 : ({ s with heap := s.heap.push { cls := .type "list", data := .seq ([] : List Value).toArray } } : Shared) = s2 at I2
  have eh : s2.heap = s.heap.push { cls := .type "list", data := .seq ([] : List Value).toArray } := by rw [← hs2]
  have lt2 : ∀ b ∈ fp, b < s2.heap.objs.size := fun b hb => by rw [eh, Heap.size_push]; exact Nat.lt_succ_of_lt (lt0 b hb)
  rw [← eh] at st2
  have le2 : s.heap.objs.size ≤ s2.heap.objs.size := by rw [eh, Heap.size_push]; exact Nat.le_succ _
  show wpAny _ _ _ _ _ s2
  refine newEnv_lc ?_
  rw [cellsFrom_none L.noC, pushCells_none L.noC]
  have hns₁ : (s2.heap.push { cls := .type "dict", data := .dict #[] }).Ns s2.heap.objs.size _ := Heap.Ns.new s2.heap (.type "dict")
  have keep : ∀ b o, s2.heap.get? b = some o → (s2.heap.push { cls := .type "dict", data := .dict #[] }).get? b = some o := fun b o e => Heap.get?_push_of_some _ e
  generalize s2.heap.push { cls := .type "dict", data := .dict #[] } = h₁ at hns₁ keep ⊢
  have J0 : Inv (X.blks (blkNs X.N xs) sc s2 (upd H s.heap.objs.size (.lst [])) fp) [] (σ ++ xs.map fun _ => none) (upd H s.heap.objs.size (.lst [])) { s2 with heap := h₁ } := I2.blks (tk := s2.toks) L hS hf2 lt2 hns₁ keep
  have st3 : tn 0 h₁ := T.keep 0 _ _ st2 fun b _ o e => keep b o e
  have stat : ∀ {H' : Hp}, (∀ b ∈ fp, H' b = none) → ∀ b ∈ fp, FpOk (X.blks (blkNs X.N xs) sc s2 (upd H s.heap.objs.size (.lst [])) fp) [] H' b := fun {H'} hn b hb => by
    have o1 := J0.ok.exf b hb
    exact ⟨hn b hb, o1.1, J0.ok.exfs b hb, .inl hb, o1.2, fun p hp => absurd (show p ∈ ([] : List (Addr × Obj)) from hp) (by simp)⟩
  have loop : codeAny (model X.prog X.w) X.A (.compLoop (.ListComp elt [⟨target, iter, ifs, 0⟩] sc pos) 0 (.ref it) (.ref s.heap.objs.size) (compEnvC sc (clOf X.env.cells sc.names []) s2.heap.objs.size X.env))
      (compPost (model X.prog X.w) X.A X.xe use QQ (.ref s.heap.objs.size) s2.heap.objs.size) { s2 with heap := h₁ } := by
    refine compLoopT (fun n s' => ∃ i ys H' os, os.length = xs.length ∧ Inv (X.blks (blkNs X.N xs) sc s2 (upd H s.heap.objs.size (.lst [])) fp) [] (σ ++ os) H' s' ∧ tn i s'.heap ∧ (∀ b ∈ fp, H' b = none) ∧ W i n ys H') ?_ m0 ⟨0, [], _, xs.map fun _ => none, by simp, J0, st3, fun b hb => (hf2 b hb).1, w0⟩
    rintro n s4 ⟨i, ys, H4, os, los, J4, st4, fr4, w4⟩
    obtain ⟨hD4, tt'⟩ := turn i n ys H4 w4
    rcases tt' with ⟨stop, q⟩ | ⟨go, step⟩
    · refine thn (T.done (X.blks (blkNs X.N xs) sc s2 (upd H s.heap.objs.size (.lst [])) fp) rfl rfl rfl hc i [] s4 _ H4 _ J4 (stat fr4) st4 stop) fun r s5 ⟨hr, J5⟩ => ?_
      subst hr
      have I5 : Inv X pins σ H4 s5 := I2.call' J5.os J5.base J5.hok J5.bare fun b hb => by
        obtain ⟨f0, f1, f2, f3, f4, f5⟩ := hf2 b hb
        exact ⟨f3, f1, f4, f5⟩
      obtain ⟨m5, n5, _⟩ := J5.loc
      exact fin _ _ H4 s5 m5 I5 q n5 J5.free le2 (fun p hp z => by
          have := Heap.lt_size (I2.pin p hp).1
          rw [z] at this
          exact Nat.lt_irrefl _ this) (Nat.ne_of_gt I2.lt) (fun y c e z => by
          obtain ⟨v, o, ho, _⟩ := I2.cell y c e
          have := Heap.lt_size ho
          rw [z] at this
          exact Nat.lt_irrefl _ this)
    · refine thn (T.item (X.blks (blkNs X.N xs) sc s2 (upd H s.heap.objs.size (.lst [])) fp) rfl rfl rfl hc i [] s4 _ H4 _ J4 (stat fr4) st4 go) fun r s5 ⟨u, hr, h5⟩ => ?_
      subst hr
      refine thn h5 fun _ s6 ⟨z, H6, J6, r6, y6, st6, fr6⟩ => ?_
      have J6' := J6.pinned (stat fr6) (T.obj _ _ st6)
      refine thn (hg s2 (upd H s.heap.objs.size (.lst [])) fp _ s6 _ H6 z u _ J6' r6 (step z H6 y6 os los)) fun _ s7 ⟨σ7, H7, J7, ⟨os', e7, l7⟩, t7⟩ => ?_
      subst e7
      refine thn (ht s2 (upd H s.heap.objs.size (.lst [])) fp _ s7 _ H7 _ J7 t7) fun ok s8 ⟨H8, J8, t8⟩ => ?_
      cases ok with
      | false =>
        rw [if_neg Bool.false_ne_true] at t8 ⊢
        obtain ⟨m', hm, w8⟩ := t8
        refine ⟨m', hm, i + 1, ys, _, os', l7, J8.unpinned, T.keep _ _ _ st6 fun b hb o e => (J8.pin (b, o) (List.mem_append_right _ (List.mem_append_right _ (mem_pinsAt hb e)))).1, fun b hb => ?_, w8⟩
        obtain ⟨o', e', _⟩ := T.obj _ _ st6 b hb
        exact (J8.pin (b, o') (List.mem_append_right _ (List.mem_append_right _ (mem_pinsAt hb e')))).2.1
      | true =>
        rw [if_pos rfl] at t8 ⊢
        refine thn (he s2 (upd H s.heap.objs.size (.lst [])) fp _ s8 _ H8 _ J8 t8) fun vv s9 ⟨v, H9, J9, r9, hD9, hz9, m', hm, w9⟩ => ?_
        refine thn (mt_append (X := X.blks (blkNs X.N xs) sc s2 (upd H s.heap.objs.size (.lst [])) fp) _ s9 _ H9 (.ref s.heap.objs.size) [v] (.ref s.heap.objs.size) [vv] (fun _ H' => H' = upd H9 s.heap.objs.size (.lst (ys ++ [v]))) J9 rfl (.cons r9 .nil) ⟨_, ys, v, rfl, rfl, hD9, hz9, rfl⟩) fun _ s10 ⟨_, H10, J10, _, e10⟩ => ?_
        subst e10
        refine ⟨m', hm, i + 1, ys ++ [v], _, os', l7, J10.unpinned, T.keep _ _ _ st6 fun b hb o e => (J10.pin (b, o) (List.mem_append_right _ (List.mem_append_right _ (mem_pinsAt hb e)))).1, fun b hb => ?_, w9⟩
        obtain ⟨o', e', _⟩ := T.obj _ _ st6 b hb
        exact (J10.pin (b, o') (List.mem_append_right _ (List.mem_append_right _ (mem_pinsAt hb e')))).2.1
  refine codeAny_compStart_list loop (T.self _ 0 _ _ _ st3 loop)
theorem pe_lcs {elt iter target : Expr} {ifs : List Expr} {pos : Pos} {ti : TI} {g : TG} {tt : TT} {te : TE} {S : Scope} (hc : X.calm = true) (L : LcScopes S X.N sc xs) (hS : X.env.scope = S) (hi : PI X target iter ti)
    (hg : ∀ (s₀ : Shared) (H₀ : Hp) (fp : List Addr), PG (X.blks (blkNs X.N xs) sc s₀ H₀ fp) target g) (ht : ∀ (s₀ : Shared) (H₀ : Hp) (fp : List Addr), PTs (X.blks (blkNs X.N xs) sc s₀ H₀ fp) ifs tt)
    (he : ∀ (s₀ : Shared) (H₀ : Hp) (fp : List Addr), PE (X.blks (blkNs X.N xs) sc s₀ H₀ fp) elt te) (hs : ∀ x, foldedSetIterable iter X.env x = pure x := by intro _; rfl) :
    PE X (.ListComp elt [⟨target, iter, ifs, 0⟩] sc pos) (tLcs xs.length ti g tt te) := by
  intro pins s σ H Q I h
  rw [eval_ListComp]
  refine wpAny_comprehension_free (use := none) rfl hs (closure_of (I.has_cells L hS)) L.kind L.names (thn (hi pins s σ H _ I h) fun xv s₁ h₁ => thn h₁ fun itv s₂ h₂ => ?_)
  obtain ⟨it, fp, tn, J, H2, rfl, I2, T, st2, f2, q2⟩ := h₂
  refine lcs_core hc L hS hg ht he I2 T st2 f2 q2 ?_
  intro D C H' s' m I' q hn hC hle hp hL hcl
  refine ⟨m, hn, fun h' hs' => ?_⟩
  have I3 : Inv X pins σ H' { s' with heap := h' } := I'.turned (t' := s'.toks) (fun b o hb e => (hs'.2 b hb).trans e) hC hL (.inr (Nat.le_trans I2.sz hle)) hcl hp
  exact ⟨.ref D, H', I3, rfl, q⟩
/-- y = [..] where the store comes ahead of the block's end -/
theorem ps_setLcs {elt iter target : Expr} {ifs : List Expr} {i : Nat} {y : Str} {py pos spos : Pos} {ti : TI} {g : TG} {tt : TT} {te : TE} {S : Scope} (hN : X.N.Nodup) (hi : X.N[i]? = some y) (hy : Loc X.env.scope y) (hc : X.calm = true) (L : LcScopes S X.N sc xs) (hS : X.env.scope = S) (hit : PI X target iter ti)
    (hg : ∀ (s₀ : Shared) (H₀ : Hp) (fp : List Addr), PG (X.blks (blkNs X.N xs) sc s₀ H₀ fp) target g) (ht : ∀ (s₀ : Shared) (H₀ : Hp) (fp : List Addr), PTs (X.blks (blkNs X.N xs) sc s₀ H₀ fp) ifs tt)
    (he : ∀ (s₀ : Shared) (H₀ : Hp) (fp : List Addr), PE (X.blks (blkNs X.N xs) sc s₀ H₀ fp) elt te)
    (hsw : swapsWith (.ListComp elt [⟨target, iter, ifs, 0⟩] sc pos) (some (.Name y py)) spos.line X.env = pure true := by rfl) (hs : ∀ x, foldedSetIterable iter X.env x = pure x := by intro _; rfl)
    (hf : X.fn y = true ∨ X.env.scope.names.lookup y = some .local := by first | exact .inl rfl | exact .inr rfl | assumption) :
    PS X (.Assign [.Name y py] (.ListComp elt [⟨target, iter, ifs, 0⟩] sc pos) spos) (tAsg (tLcs xs.length ti g tt te) (gName i)) := by
  intro pins s σ H D I h
  rw [exec_Assign_Name_used _ _ _ _ hsw]
  refine wpAny_bind (wpAny_standAt (wpAny_bind ?_))
  show wpAny _ _ (do let _ ← comprehension (.ListComp elt [⟨target, iter, ifs, 0⟩] sc pos) sc X.env _ (newList []) false (eval iter X.env) (some (assign (.Name y py) X.env))) _ _ s
  refine wpAny_bind (wpAny_mono (wpAny_comprehension_free (use := some (assign (.Name y py) X.env)) (Q := fun _ s' => SP X pins D .next s') rfl hs (closure_of (I.has_cells L hS)) L.kind L.names
    (thn (hit pins s σ H _ I h) fun xv s₁ h₁ => thn h₁ fun itv s₂ h₂ => ?_)) (fun _ s' hq => wpAny_pure (wpAny_pure hq)) fun _ _ e => e)
  obtain ⟨it, fp, tn, J, H2, rfl, I2, T, st2, f2, q2⟩ := h₂
  refine lcs_core (Q := fun v H' => D.nx (σ.set i (some v)) H') hc L hS hg ht he I2 T st2 f2 q2 ?_
  intro D' C H' s' m I' q hn hC hle hp hL hcl
  show wpAny _ _ (assign (.Name y py) X.env (.ref D')) _ _ s'
  refine wpAny_assign_Name (store_ok2 I' hN hi hy (v := .ref D') (u := .ref D') rfl (fun s'' I'' ⟨a, sb, ha⟩ => ?_) hf)
  have nCa : C ≠ a := by
    rcases ha with rfl | ha
    · exact hL
    · exact fun z => hcl y a ha z.symm
  refine ⟨m, hn.sameBut sb nCa, fun h' hs' => ?_⟩
  have I3 : Inv X pins (σ.set i (some (.ref D'))) H' { s'' with heap := h' } := I''.turned (t' := s''.toks) (fun b o hb e => (hs'.2 b hb).trans e) hC hL (.inr (Nat.le_trans I2.sz hle)) hcl hp
  exact ⟨_, H', I3, q⟩
/-- two names; one name -/
def g2 (K : PySem.W.Frag) (n : Nat) : TG := gTup K 2 (gCons (gName n) (gCons (gName (n + 1)) gNil))
theorem pg_two {S : Scope} {x y : Str} {px py tpos : Pos} {k : Nat} (hc : X.calm = true) (L : LcScopes S X.N sc [x, y]) (s₀ : Shared) (H₀ : Hp) (fp : List Addr) : PG (X.blks (blkNs X.N [x, y]) sc s₀ H₀ fp) (.Tuple [.Name x px, .Name y py] k tpos) (g2 X.K X.N.length) := by
  refine pg_tup (X := X.blks (blkNs X.N [x, y]) sc s₀ H₀ fp) hc (pgs_cons (pg_name L.nd ?_ (.inl (lookup_relabel_local (L.loc x (by simp)))) (.inr (lookup_relabel_local (L.loc x (by simp))))) (pgs_cons (pg_name L.nd ?_ (.inl (lookup_relabel_local (L.loc y (by simp)))) (.inr (lookup_relabel_local (L.loc y (by simp))))) pgs_nil))
  · show (blkNs X.N [x, y])[X.N.length]? = some x
    unfold blkNs
    rw [List.getElem?_append_right (by simp)]
    simp
  · show (blkNs X.N [x, y])[X.N.length + 1]? = some y
    unfold blkNs
    rw [List.getElem?_append_right (by simp)]
    simp
theorem pg_one {S : Scope} {x : Str} {px : Pos} (L : LcScopes S X.N sc [x]) (s₀ : Shared) (H₀ : Hp) (fp : List Addr) : PG (X.blks (blkNs X.N [x]) sc s₀ H₀ fp) (.Name x px) (gName X.N.length) := by
  refine pg_name L.nd ?_ (.inl (lookup_relabel_local (L.loc x (by simp)))) (.inr (lookup_relabel_local (L.loc x (by simp))))
  show (blkNs X.N [x])[X.N.length]? = some x
  unfold blkNs
  rw [List.getElem?_append_right (by simp)]
  simp
end
end L2

/-! a comprehension of one name, by the rule for several -/
namespace L2
open PySem PySem.Spec PyProof.Rows
theorem lcw_one {n : Nat} {J : It} {te : TE} {σ : St} {H1 : Hp} {Q : VK} (hn : σ.length = n) (h : ∀ D, H1 D = none → ∃ W : Nat → Nat → List V → Hp → Prop, (∃ m, W 0 m [] (upd H1 D (.lst []))) ∧
    ∀ i m ys H', W i m ys H' → H' D = some (.lst ys) ∧ ((J.stop i H' ∧ Q (.ref D) H') ∨ (J.go i H' ∧ ∀ z H2, J.yld i H' z H2 → te (σ ++ [some z]) H2 fun v H3 => H3 D = some (.lst ys) ∧ ys.length < sizeLine ∧ ∃ m', m' < m ∧ W (i + 1) m' (ys ++ [v]) (upd H3 D (.lst (ys ++ [v])))))) :
    LcW 1 J (gName n) tYes te σ H1 Q := by
  subst hn
  intro D hD
  obtain ⟨W, w0, st⟩ := h D hD
  refine ⟨W, w0, fun i m ys H' hw => ?_⟩
  obtain ⟨e, d⟩ := st i m ys H' hw
  refine ⟨e, d.imp id fun ⟨go, yl⟩ => ⟨go, fun z H2 hy os los => ?_⟩⟩
  match os, los with
  | [o], _ =>
    have es : (σ ++ [o]).set σ.length (some z) = σ ++ [some z] := by
      rw [List.set_append_right _ _ (Nat.le_refl _), Nat.sub_self]
      rfl
    show (∃ os' : St, (σ ++ [o]).set σ.length (some z) = σ ++ os' ∧ os'.length = 1) ∧ tYes ((σ ++ [o]).set σ.length (some z)) H2 _
    rw [es]
    exact ⟨⟨[some z], rfl, rfl⟩, iteT (B := ∃ m', m' < m ∧ W (i + 1) m' ys H2) (yl z H2 hy)⟩
section
variable {X : Cx} {sc : Scope} {x : Str}
theorem pe_lc1 {elt iter : Expr} {px pos : Pos} {ti : TI} {te : TE} {S : Scope} (hc : X.calm = true) (L : LcScopes S X.N sc [x]) (hS : X.env.scope = S) (hi : PI X (.Name x px) iter ti)
    (he : ∀ (s₀ : Shared) (H₀ : Hp) (fp : List Addr), PE (X.blks (blkNs X.N [x]) sc s₀ H₀ fp) elt te) (hs : ∀ x, foldedSetIterable iter X.env x = pure x := by intro _; rfl) :
    PE X (.ListComp elt [⟨.Name x px, iter, [], 0⟩] sc pos) (tLc ti te) := by
  intro pins s σ H Q I h
  rw [eval_ListComp]
  refine wpAny_comprehension_free (use := none) rfl hs (closure_of (I.has_cells L hS)) L.kind L.names (thn (hi pins s σ H _ I h) fun xv s₁ h₁ => thn h₁ fun itv s₂ h₂ => ?_)
  obtain ⟨it, fp, tn, J, H2, rfl, I2, T, st2, f2, q2⟩ := h₂
  refine lcs_core hc L hS (pg_one L) (fun _ _ _ => pts_nil) he I2 T st2 f2 (lcw_one I2.len q2) ?_
  intro D C H' s' m I' q hn hC hle hp hL hcl
  refine ⟨m, hn, fun h' hs' => ?_⟩
  have I3 : Inv X pins σ H' { s' with heap := h' } := I'.turned (t' := s'.toks) (fun b o hb e => (hs'.2 b hb).trans e) hC hL (.inr (Nat.le_trans I2.sz hle)) hcl hp
  exact ⟨.ref D, H', I3, rfl, q⟩
end
end L2

/-! enumerate of a list, walked by a tuple of names -/
namespace L2
open PySem PySem.Spec PyProof.Rows
def Ite (K : PySem.W.Frag) (a : Addr) : It :=
  ⟨fun i H => ∃ xs x, SqL K H a xs ∧ xs[i]? = some x,
   fun i H z H' => ∃ t x, z = .ref t ∧ H t = none ∧ H' = upd H t (.tup [.int (i : Int), x]) ∧ ∀ xs, SqL K H a xs → xs[i]? = some x,
   fun i H => ∃ xs, SqL K H a xs ∧ xs.length ≤ i⟩
def ESt (e it a : Addr) (i : Nat) (h : Heap) : Prop := (∃ old, IsEnum h e it (i : Int) old) ∧ h.IsListIter it a i
theorem turn_enum {P : Program} {w : World} {K : PySem.W.Frag} {elts : List Expr} {ek : Nat} {epos : Pos} {e it a : Addr} (ne : e ≠ it) : Turn P w K (.Tuple elts ek epos) (Ite K a) [e, it] e (ESt e it a) where
  mem := by simp
  obj := fun i h st c hc => by
    obtain ⟨⟨old, he⟩, ⟨o1, e1, c1, d1⟩⟩ := st
    have hc' : c = e ∨ c = it := by simpa using hc
    rcases hc' with rfl | rfl
    · exact ⟨_, he, fun v e => by cases e⟩
    · exact ⟨_, e1, fun v e => by rw [d1] at e; cases e⟩
  keep := fun i h h' st k => by
    obtain ⟨⟨old, he⟩, l1⟩ := st
    exact ⟨⟨old, k e (by simp) _ he⟩, l1.at fun o q => k it (by simp) o q⟩
  item := by
    intro X hP hw hK hc i pins s σ H E I hf st hg
    subst hP hw hK
    obtain ⟨xs, x, hx, ex⟩ := hg
    obtain ⟨ia, ra, pa, za⟩ := I.list hx
    obtain ⟨u, hu, ru⟩ := ra.get ex
    obtain ⟨⟨old, he⟩, l1⟩ := st
    refine wpAny_pyNext_enum_item he l1 pa.isList (x := u) (by simpa using hu) ne fun h' a1 a2 a3 a4 a5 => ?_
    refine ⟨_, rfl, wpAny_letOwnedTupleGo_enum a1 fun h2 b1 b2 => ?_⟩
    have hT : H s.heap.objs.size = none := I.hok.fresh (Nat.le_refl _)
    have ltz : ∀ c o, s.heap.get? c = some o → s.heap.objs.size ≠ c := fun c o q => Nat.ne_of_gt (Heap.lt_size q)
    have Te : s.heap.objs.size ≠ e := ltz _ _ he
    have aT : h2.get? s.heap.objs.size = some { cls := .type "tuple", data := .seq #[.int i s.toks, u] } := b2.extBut _ _ Te a3
    have k2 : ∀ c o, c ≠ e → c ≠ it → s.heap.get? c = some o → h2.get? c = some o := fun c o n1 n2 q => b2.extBut _ _ n1 (a5 c o n1 n2 q)
    have I1 : Inv X pins σ (upd H s.heap.objs.size (.tup [.int (i : Int), x])) { s with heap := s.heap.push { cls := .type "tuple", data := .seq #[.int i s.toks, u] }, toks := s.toks + 1 } := by
      refine I.laid (t' := s.toks + 1) (fun c o q => Heap.get?_push_of_some _ q) (Nat.le_refl _) ?_
      exact ⟨(by show 2 ≤ sizeLine; decide), [.int i s.toks, u], .cons ⟨_, rfl⟩ (.cons ru .nil), IsTup.new s.heap _⟩
    have hf1 : ∀ c ∈ [e, it], FpOk X pins (upd H s.heap.objs.size (.tup [.int (i : Int), x])) c := fun c hc' => by
      obtain ⟨f0, f⟩ := hf c hc'
      refine ⟨?_, f⟩
      have : ∃ o, s.heap.get? c = some o := by
        have hc'' : c = e ∨ c = it := by simpa using hc'
        obtain ⟨o1, e1, _⟩ := l1
        rcases hc'' with rfl | rfl
        · exact ⟨_, he⟩
        · exact ⟨_, e1⟩
      obtain ⟨o, q⟩ := this
      rw [upd_ne (ltz c o q).symm]
      exact f0
    have I2 : Inv X pins σ (upd H s.heap.objs.size (.tup [.int (i : Int), x])) { s with heap := h2, toks := s.toks + 1 } := by
      refine Inv.turnedL (s := { s with heap := s.heap.push { cls := .type "tuple", data := .seq #[.int i s.toks, u] }, toks := s.toks + 1 }) (h' := h2) (t' := s.toks + 1) (its := [e, it]) I1 (fun c o hc' q => ?_) hf1
      have hc'' : ¬ (c = e ∨ c = it) := by simpa using hc'
      by_cases hcs : c = s.heap.objs.size
      · subst hcs
        have e' : (s.heap.push { cls := .type "tuple", data := .seq #[.int i s.toks, u] }).get? s.heap.objs.size = some o := q
        rw [Heap.get?_push_size _ rfl] at e'
        cases e'
        exact aT
      · refine k2 c o (fun z' => hc'' (.inl z')) (fun z' => hc'' (.inr z')) ?_
        rw [← q]
        exact (Heap.get?_push_ne _ _ _ hcs).symm
    refine ⟨.ref s.heap.objs.size, _, I2, rfl, ⟨_, x, rfl, hT, rfl, fun ws hw => by rw [I.list_inj hw hx]; exact ex⟩, ?_, fun c hc' => (hf1 c hc').1⟩
    exact ⟨⟨u, b1⟩, a2.extBut b2.extBut ne.symm⟩
  done := by
    intro X hP hw hK hc i pins s σ H E I hf st hg
    subst hP hw hK
    obtain ⟨xs, hx, hl⟩ := hg
    obtain ⟨ia, ra, pa, za⟩ := I.list hx
    have hla := ra.length
    obtain ⟨⟨old, he⟩, l1⟩ := st
    refine wpAny_pyNext_enum_end (I.ok.hd hc) he l1 pa.isList (by simp; omega) fun h' k => ⟨rfl, ?_⟩
    exact I.turnedL (t' := s.toks) (its := [e, it]) (fun c o hc' q => by
      have hc'' : ¬ (c = e ∨ c = it) := by simpa using hc'
      exact k c o (fun z' => hc'' (.inr z')) q) hf
  self := fun _ _ _ _ _ st h => by
    obtain ⟨⟨old, he⟩, _⟩ := st
    exact wpAny_pyIter_enum he h
section
variable {X : Cx}
def iEnum (K : PySem.W.Frag) (ta : TA) : TI := fun σ H R => ta σ H fun vs H1 => ∃ a, vs = [.ref a] ∧ (∃ xs, SqL K H1 a xs) ∧ R (Ite K a) H1
theorem pi_enum {elts : List Expr} {ek : Nat} {epos : Pos} {a : Expr} {ta : TA} {p pos : Pos} (hg : Gl X "enumerate") (hm : X.mg "enumerate" = none) (ha : PA X [a] ta) (hs : starEach [a] X.env = [(false, eval a X.env)] := by rfl) :
    PI X (.Tuple elts ek epos) (.Call (.Name "enumerate" p) [a] [] pos) (iEnum X.K ta) := by
  intro pins s σ H R I h
  refine Call_ (ld_blt I hg hm boot_enumerate (PyProof.Rows.callWith_type1 (thn (ha pos pins s σ H _ I h) fun us s1 ⟨vs, H1, I1, r1, q1⟩ => ?_) hs rfl))
  obtain ⟨l1, e, ⟨xs, hx⟩, q⟩ := q1
  subst e
  obtain ⟨u, rfl, ru⟩ := vals1 r1
  cases ru
  obtain ⟨ia, ra, pa, za⟩ := I1.list hx
  refine call_enumerate_list pa.isList fun h' he hi hsz hk => wpAny_pyIter_enum he ?_
  have fr : ∀ b, s1.heap.objs.size ≤ b → FpOk X pins H1 b := fun b hb => I1.fpOk hb (I1.hok.fresh hb)
  refine ⟨_, [s1.heap.objs.size + 1, s1.heap.objs.size], _, _, H1, rfl, I1.kept (t' := s1.toks) hk,
    turn_enum (it := s1.heap.objs.size) (a := l1) (fun z => by simp at z), ⟨⟨_, he⟩, hi⟩, fun b hb => ?_, q⟩
  have hb' : b = s1.heap.objs.size + 1 ∨ b = s1.heap.objs.size := by simpa using hb
  rcases hb' with rfl | rfl
  · exact fr _ (Nat.le_add_right _ _)
  · exact fr _ (Nat.le_refl _)
theorem for_enum {K : PySem.W.Frag} {a : Addr} {xs : List V} {g : TG} {tb : TS} {D : Ends} {σ : St} {H : Hp} (Pv : Nat → St → Hp → Prop) (h0 : Pv 0 σ H) (hl : ∀ i σ H, i ≤ xs.length → Pv i σ H → SqL K H a xs)
    (hs : ∀ (i : Nat) (x : V) (t : Addr) σ H, xs[i]? = some x → Pv i σ H → H t = none → g (.ref t) σ (upd H t (.tup [.int (i : Int), x])) fun σ2 H2 => tb { D with nx := Pv (i + 1), ct := Pv (i + 1), bk := D.nx } σ2 H2) (hd : ∀ σ H, Pv xs.length σ H → D.nx σ H) :
    ∃ W : Nat → Nat → St → Hp → Prop, (∃ m, W 0 m σ H) ∧ ∀ i m σ H, W i m σ H →
      ((Ite K a).stop i H ∧ D.nx σ H) ∨ ((Ite K a).go i H ∧ ∃ N : St → Hp → Prop, (∀ σ' H', N σ' H' → ∃ m', m' < m ∧ W (i + 1) m' σ' H') ∧ ∀ x H', (Ite K a).yld i H x H' → g x σ H' fun σ2 H2 => tb { D with nx := N, ct := N, bk := D.nx } σ2 H2) := by
  refine ⟨fun i m σ H => m = xs.length - i ∧ i ≤ xs.length ∧ Pv i σ H, ⟨xs.length, by simp, Nat.zero_le _, h0⟩, ?_⟩
  rintro i m σ H ⟨rfl, hi, p⟩
  have q1 := hl i σ H hi p
  by_cases lt : i < xs.length
  · refine .inr ⟨⟨xs, xs[i], q1, List.getElem?_eq_getElem lt⟩, Pv (i + 1), fun σ' H' p' => ⟨xs.length - (i + 1), by omega, rfl, lt, p'⟩, fun x H' y => ?_⟩
    obtain ⟨t, x1, rfl, ht, rfl, g1⟩ := y
    exact hs i x1 t σ H (g1 xs q1) p ht
  · have ei : i = xs.length := by omega
    subst ei
    exact .inl ⟨⟨xs, q1, Nat.le_refl _⟩, hd σ H p⟩
end
end L2

namespace M11
/-- gcd as an int -/
abbrev G (a b : Int) : Int := (Int.gcd a b : Nat)
theorem gcd_step (a b : Int) : Int.gcd b (a.fmod b) = Int.gcd a b := by
  rw [Int.fmod_def, Int.gcd_sub_mul_left_right, Int.gcd_comm]
theorem fmod_small (a b : Int) (h : b ≠ 0) : (a.fmod b).natAbs < b.natAbs := by
  rcases Int.lt_or_lt_of_ne h with hb | hb
  · have e := Int.neg_fmod_neg a b
    have h1 := Int.fmod_nonneg_of_pos (-a) (b := -b) (by omega)
    have h2 := Int.fmod_lt_of_pos (-a) (b := -b) (by omega)
    omega
  · have h1 := Int.fmod_nonneg_of_pos a hb
    have h2 := Int.fmod_lt_of_pos a hb
    omega
theorem gcd_end (a : Int) : (if a < 0 then -a else a) = G a 0 := by
  show _ = ((Int.gcd a 0 : Nat) : Int)
  rw [Int.gcd_zero_right]
  split <;> omega
def sgn (t b : Int) : Int := if b < 0 then -(G t b) else G t b
/-- lowest terms -/
def low (t b : Int) : Int × Int := (t.fdiv (sgn t b), b.fdiv (sgn t b))
theorem sgn_ne {t b : Int} (h : b ≠ 0) : sgn t b ≠ 0 := by
  have := Int.gcd_pos_of_ne_zero_right t h
  unfold sgn G
  split <;> omega
theorem G_le {t b : Int} (h : b ≠ 0) : G t b ≤ (b.natAbs : Int) := by
  have h1 : Int.gcd t b ∣ b.natAbs := by
    have := Int.natAbs_dvd_natAbs.mpr (Int.gcd_dvd_right t b)
    simpa using this
  have h2 : 0 < b.natAbs := by omega
  exact Int.ofNat_le.mpr (Nat.le_of_dvd h2 h1)
theorem sgn_le {t b : Int} (h : b ≠ 0) : (sgn t b).natAbs ≤ b.natAbs := by
  have h1 := G_le (t := t) h
  have h2 : 0 ≤ G t b := Int.natCast_nonneg _
  unfold sgn
  generalize G t b = g at h1 h2 ⊢
  split <;> omega
theorem natAbs_le_of_mul {d x : Int} (h : d ≠ 0) : x.natAbs ≤ (d * x).natAbs := by
  rw [Int.natAbs_mul]
  exact Nat.le_mul_of_pos_left _ (by omega)
/-- small enough for every step: below 2 ^ 250 -/
def Bd (x : Int) : Prop := x.natAbs < 2 ^ 250
/-- a fraction at hand -/
structure Fr (x y : Int) : Prop where
  bx : Bd x
  by' : Bd y
  pos : 0 < y
end M11
namespace M11
/-! the common divisor of a row -/
def foldG (b : Int) (ts : List Int) : Int := ts.foldl (fun d t => G d t) b
theorem G_pos {a b : Int} (h : 0 < a) : 0 < G a b := Int.ofNat_lt.mpr (Int.gcd_pos_of_ne_zero_left b (by omega))
theorem foldG_spec : ∀ (ts : List Int) (b : Int), 0 < b → 0 < foldG b ts ∧ foldG b ts ∣ b ∧ ∀ t ∈ ts, foldG b ts ∣ t
  | [], b, h => ⟨h, Int.dvd_refl _, fun t ht => by cases ht⟩
  | t :: ts, b, h => by
    have hp := G_pos (b := t) h
    obtain ⟨h1, h2, h3⟩ := foldG_spec ts (G b t) hp
    have e : foldG b (t :: ts) = foldG (G b t) ts := rfl
    rw [e]
    refine ⟨h1, Int.dvd_trans h2 (Int.gcd_dvd_left b t), fun u hu => ?_⟩
    rcases List.mem_cons.mp hu with rfl | hu
    · exact Int.dvd_trans h2 (Int.gcd_dvd_right b u)
    · exact h3 u hu
theorem foldG_one : ∀ ts : List Int, foldG 1 ts = 1
  | [] => rfl
  | t :: ts => by
    show foldG (G 1 t) ts = 1
    have : G 1 t = 1 := by unfold G; rw [Int.one_gcd]; rfl
    rw [this]
    exact foldG_one ts
def lowerR (ts : List Int) (b : Int) : List Int × Int := (ts.map fun t => t.fdiv (foldG b ts), b.fdiv (foldG b ts))
theorem fdiv_of_dvd {d t : Int} (hd : 0 < d) (h : d ∣ t) : ∃ q, t = d * q ∧ t.fdiv d = q := by
  obtain ⟨q, e⟩ := h
  exact ⟨q, e, by rw [e]; exact Int.mul_fdiv_cancel_left q (by omega)⟩
theorem lowerR_pos {ts : List Int} {b : Int} (h : 0 < b) : 0 < (lowerR ts b).2 ∧ (lowerR ts b).2 ≤ b := by
  obtain ⟨h1, h2, h3⟩ := foldG_spec ts b h
  obtain ⟨q, e1, e2⟩ := fdiv_of_dvd h1 h2
  show 0 < b.fdiv (foldG b ts) ∧ b.fdiv (foldG b ts) ≤ b
  rw [e2]
  generalize foldG b ts = d at *
  have hq : 0 < q := by
    by_cases z : 0 < q
    · exact z
    · have := Int.mul_nonpos_of_nonneg_of_nonpos (a := d) (b := q) (by omega) (by omega)
      omega
  refine ⟨hq, ?_⟩
  rw [e1]
  have := Int.mul_le_mul_of_nonneg_right (a := 1) (b := d) (c := q) (by omega) (by omega)
  omega
theorem lowerR_le {ts : List Int} {b : Int} (h : 0 < b) : ∀ x ∈ (lowerR ts b).1, ∃ t ∈ ts, x.natAbs ≤ t.natAbs := by
  obtain ⟨h1, h2, h3⟩ := foldG_spec ts b h
  intro x hx
  obtain ⟨t, ht, rfl⟩ := List.mem_map.mp hx
  obtain ⟨r, e3, e4⟩ := fdiv_of_dvd h1 (h3 t ht)
  refine ⟨t, ht, ?_⟩
  rw [e4]
  have := natAbs_le_of_mul (d := foldG b ts) (x := r) (by omega)
  rw [← e3] at this
  exact this
/-! bounds -/
def Bn (n : Nat) (x : Int) : Prop := x.natAbs < 2 ^ n
theorem Bn.mono {n m : Nat} {x : Int} (h : Bn n x) (hm : n ≤ m) : Bn m x := Nat.lt_of_lt_of_le h (Nat.pow_le_pow_right (by decide) hm)
theorem Bn.mul {n m : Nat} {x y : Int} (h : Bn n x) (h' : Bn m y) : Bn (n + m) (x * y) := by
  unfold Bn at *
  rw [Int.natAbs_mul, Nat.pow_add]
  exact Nat.mul_lt_mul'' h h'
theorem Bn.le {n : Nat} {x y : Int} (h : Bn n x) (h' : y.natAbs ≤ x.natAbs) : Bn n y := Nat.lt_of_le_of_lt h' h
end M11

/-! xs.extend(t) of a tuple -/
namespace L2
open PySem PySem.Spec PyProof.Rows
section
variable {X : Cx}
def rExtendT (K : PySem.W.Frag) : V → List V → Hp → VK → Prop := fun x vs H Q => ∃ l b xs zs, x = .ref l ∧ vs = [.ref b] ∧ H l = some (.lst xs) ∧ SqT K H b zs ∧ xs.length + zs.length ≤ sizeLine ∧ Q .non (upd H l (.lst (xs ++ zs)))
end
end L2

/-! EXCEPTIONS WITH A DICT: how they fly from frame to frame, their dict in hand -/
namespace L2
open PySem PySem.Spec PyProof.Rows
theorem dict_mapFields (o : Obj) (f : Array Value → Array Value) : (o.mapFields f).dict = o.dict := by
  unfold Obj.mapFields
  split <;> rfl
/-- a traceback is on e: e's class and dict, the flight that the traceback tells -/
structure TrD (h base : Heap) (e : Addr) (cls : Value) (dd : Option Addr) (fl : Value) : Prop where
  ex : ∃ oe vs T oT ts, (h.get? e = some oe ∧ oe.cls = cls ∧ oe.dict = dd ∧ oe.data = .fields vs) ∧ vs[1]? = some (.ref T) ∧ base.get? T = none ∧ T ≠ e ∧ (h.get? T = some oT ∧ oT.data = .fields ts) ∧ ts[3]? = some fl
/-- on its way to the frames l -/
structure FlyD (base : Heap) (l : List Env) (e : Addr) (cls : Value) (dd : Option Addr) (fl : Value) (h : Heap) : Prop where
  stay : base.StaysIn h
  new : base.get? e = none
  frm : h.FunFrames base l
  tr : TrD h base e cls dd fl
section
variable {M : Model} {A : Around} {E : Value → Shared → Prop} {s : Shared} {base : Heap} {env : Env} {outer : List Env} {L e : Addr} {cls : Value} {dd : Option Addr}
theorem entryD {oe : Obj} {vs : Array Value} {head : Value} {had : Bool} {Q : Unit → Shared → Prop} (hA : A.frames = some (env :: outer)) (hl : s.heap.FunFrames base (env :: outer)) (hf : env.frame = some L)
    (he : s.heap.get? e = some oe) (hk : base.StaysIn s.heap) (hn : base.get? e = none) (hd : oe.data = .fields vs) (hz : 1 < vs.size)
    (q : ∀ h', FlyD base (env :: outer) e oe.cls oe.dict (rawInt L) h' → s.heap.UpToSlots h' → Q () { s with heap := h' }) :
    wpAny M A (frameOf env >>= fun a => entryPlaceOf L had >>= fun pl => EntryCells.newEntry head a .none (rawInt L) .none pl >>= fun b => setField (.ref e) 1 b) Q E s := by
  have out : ∀ b o, s.heap.get? b = some o → (∀ ws, o.data ≠ .fields ws) → b ≠ e := fun b o ho hx z => by
    rw [z, he] at ho
    cases ho
    exact hx _ hd
  refine wpAny_bind (wpAny_frameOf_fun hA hl hf fun h1 so => wpAny_bind (wpAny_entryPlaceOf fun pl hp => ?_))
  have e1 : h1.get? e = some oe := by
    rw [so.2.1 e fun hm => ?_]
    · exact he
    · obtain ⟨_, o, ho, hx⟩ := hl.mem hm
      exact out e o ho hx rfl
  have k1 : base.StaysIn h1 := fun b o ho => by
    rw [so.2.1 b fun hm => by rw [(hl.mem hm).1] at ho; cases ho]
    exact hk b o ho
  unfold EntryCells.newEntry newFields
  refine wpAny_bind (wpAny_newObj_type ?_ (hp.sizeOk5 _ _ _ _ _))
  generalize hts : ([head, .ref L, .none, rawInt L, .none] ++ (if pl.isEmpty then List.replicate 6 Value.none else pl)).toArray = ts
  have t3 : ts[3]? = some (rawInt L) := by
    rw [← hts]
    rcases hp with rfl | ⟨_, _, _, _, _, _, _, rfl⟩ <;> simp
  have e2 : (h1.push { cls := .type "traceback", data := .fields ts }).get? e = some oe := Heap.get?_push_of_some _ e1
  have T2 : (h1.push { cls := .type "traceback", data := .fields ts }).get? h1.objs.size = some { cls := .type "traceback", data := .fields ts } := Heap.get?_push_size h1 rfl
  have nT : h1.objs.size ≠ e := Nat.ne_of_gt (Heap.lt_size e1)
  refine wpAny_setField e2 hd hz (q _ ⟨?_, hn, ?_, ?_⟩ ?_)
  · intro b o ho
    have : e ≠ b := fun z => by rw [← z, hn] at ho; cases ho
    rw [Heap.get?_update_other _ _ this]
    exact Heap.get?_push_of_some _ (k1 b o ho)
  · refine hl.of_keeps fun b o ho hx => ?_
    obtain ⟨sl, z⟩ := so.2.2 b o ho
    refine ⟨_, (Heap.get?_update_other _ _ (Ne.symm (out b o ho hx))).trans (Heap.get?_push_of_some _ z), rfl⟩
  · have d3 := Obj.data_mapFields hd fun ws => ws.setIfInBounds 1 (Value.ref h1.objs.size)
    refine ⟨_, _, h1.objs.size, _, ts, ⟨Heap.get?_update_self _ e2 (Obj.isFreed_of_fields d3), Obj.cls_mapFields _ _, dict_mapFields _ _, d3⟩, by simp [hz], k1.fresh, nT, ⟨(Heap.get?_update_other _ _ (Ne.symm nT)).trans T2, rfl⟩, t3⟩
  · intro b o ho hx
    obtain ⟨sl, z⟩ := so.2.2 b o ho
    exact ⟨sl, (Heap.get?_update_other _ _ (Ne.symm (out b o ho hx))).trans (Heap.get?_push_of_some _ z)⟩
/-- the frame is noted: the first one on an exception without a traceback -/
theorem noteD0 {oe : Obj} {vs : Array Value} {Q : Unit → Shared → Prop} (hA : A.frames = some (env :: outer)) (hl : s.heap.FunFrames base (env :: outer)) (hf : env.frame = some L)
    (he : s.heap.get? e = some oe) (hk : base.StaysIn s.heap) (hn : base.get? e = none) (hd : oe.data = .fields vs) (h1 : vs[1]? = some .none)
    (q : ∀ h', FlyD base (env :: outer) e oe.cls oe.dict (rawInt L) h' → s.heap.UpToSlots h' → Q () { s with heap := h' }) : wpAny M A (noteFrame (.ref e) env) Q E s := by
  unfold noteFrame
  rw [hf]
  refine wpAny_bind (wpAny_field he hd h1 ?_)
  exact entryD hA hl hf he hk hn hd (Array.getElem?_eq_some_iff.mp h1).1 q
/-- .. and each further one -/
theorem noteD {Q : Unit → Shared → Prop} (hA : A.frames = some (env :: outer)) (hf : env.frame = some L) (fl : FlyD base (env :: outer) e cls dd .none s.heap)
    (q : ∀ h', FlyD base (env :: outer) e cls dd (rawInt L) h' → s.heap.UpToSlots h' → Q () { s with heap := h' }) : wpAny M A (noteFrame (.ref e) env) Q E s := by
  obtain ⟨oe, vs, T, oT, ts, ⟨he, hc, hdd, hd⟩, h1, nb, nT, ⟨hT, hdT⟩, h3⟩ := fl.tr.ex
  subst hc hdd
  unfold noteFrame
  rw [hf]
  refine wpAny_bind (wpAny_field he hd h1 ?_)
  rw [if_pos (by simp)]
  refine wpAny_bind (wpAny_field hT hdT h3 ?_)
  rw [if_neg (by simp [rawInt])]
  refine wpAny_bind (wpAny_setField hT hdT (Array.getElem?_eq_some_iff.mp h3).1 ?_)
  have oth : ∀ b, b ≠ T → (s.heap.update T (Obj.mapFields (·.setIfInBounds 3 Value.none))).get? b = s.heap.get? b := fun b hb => Heap.get?_update_other _ _ (Ne.symm hb)
  have out : ∀ b o, s.heap.get? b = some o → (∀ ws, o.data ≠ .fields ws) → b ≠ T := fun b o ho hx z => by
    rw [z, hT] at ho
    cases ho
    exact hx _ hdT
  refine entryD hA (fl.frm.of_keeps fun b o ho hx => ⟨o, (oth b (out b o ho hx)).trans ho, rfl⟩) hf ((oth e (Ne.symm nT)).trans he) (fun b o ho => ?_) fl.new hd (Array.getElem?_eq_some_iff.mp h1).1 fun h' f' u => q h' f' fun b o ho hx => u b o ((oth b (out b o ho hx)).trans ho) hx
  have : b ≠ T := fun z => by rw [z, nb] at ho; cases ho
  exact (oth b this).trans (fl.stay b o ho)
/-- the flight is at an end -/
theorem flightD {l : List Env} {v : Value} {Q : Unit → Shared → Prop} (fl : FlyD base l e cls dd v s.heap) (q : ∀ h', FlyD base l e cls dd .none h' → s.heap.UpToSlots h' → Q () { s with heap := h' }) : wpAny M A (setFlight (.ref e) none) Q E s := by
  obtain ⟨oe, vs, T, oT, ts, ⟨he, hc, hdd, hd⟩, h1, nb, nT, ⟨hT, hdT⟩, h3⟩ := fl.tr.ex
  have hz := (Array.getElem?_eq_some_iff.mp h3).1
  have out : ∀ b o, s.heap.get? b = some o → (∀ ws, o.data ≠ .fields ws) → T ≠ b := fun b o ho hx z => by
    rw [← z, hT] at ho
    cases ho
    exact hx _ hdT
  unfold setFlight
  refine wpAny_bind (wpAny_field he hd h1 ?_)
  rw [if_pos (by simp)]
  refine wpAny_setField hT hdT hz (q _ ⟨fun b o ho => ?_, fl.new, fl.frm.of_keeps fun b o ho hx => ⟨o, (Heap.get?_update_other _ _ (out b o ho hx)).trans ho, rfl⟩, ?_⟩ fun b o ho hx => ⟨o.slots, (Heap.get?_update_other _ _ (out b o ho hx)).trans ho⟩)
  · have : T ≠ b := fun z => by rw [← z, nb] at ho; cases ho
    exact (Heap.get?_update_other _ _ this).trans (fl.stay b o ho)
  · have d3 := Obj.data_mapFields hdT fun ws => ws.setIfInBounds 3 Value.none
    exact ⟨oe, vs, T, _, _, ⟨(Heap.get?_update_other _ _ nT).trans he, hc, hdd, hd⟩, h1, nb, nT, ⟨Heap.get?_update_self _ hT (Obj.isFreed_of_fields d3), d3⟩, by simp [hz]⟩
theorem FlyD.pop {v : Value} {h : Heap} (x : FlyD base (env :: outer) e cls dd v h) : FlyD base outer e cls dd v h := ⟨x.stay, x.new, x.frm.2.2, x.tr⟩
/-- it leaves the frame in which it was made -/
theorem leaveD0 {oe : Obj} {vs : Array Value} {Q : Unit → Shared → Prop} (hA : A.frames = some (env :: outer)) (hl : s.heap.FunFrames base (env :: outer)) (hf : env.frame = some L)
    (he : s.heap.get? e = some oe) (hk : base.StaysIn s.heap) (hn : base.get? e = none) (hd : oe.data = .fields vs) (h1 : vs[1]? = some .none)
    (q : ∀ h', FlyD base outer e oe.cls oe.dict .none h' → s.heap.UpToSlots h' → Q () { s with heap := h' }) : wpAny M A (leaving env (.ref e)) Q E s := by
  unfold leaving
  exact wpAny_bind (noteD0 hA hl hf he hk hn hd h1 fun h' f' u => flightD f' fun h'' f'' u' => q h'' f''.pop (u.trans u'))
end
end L2

/-! OWN EXCEPTIONS, in general: raised, caught by a base's name, asked for their class -/
namespace L2
open PySem PySem.Spec PyProof.Rows
/-- the bases of a ValueError -/
abbrev bmV : List Value := [.type "ValueError", .type "Exception", .type "BaseException", .type "object"]
/-- what the top has written of an own exception class -/
structure Exc (K : PySem.W.Frag) (C : Addr) (bm : List Value) : Prop where
  ok : PySem.W.excIn K C bmV "ValueError.__new__" = true
  mro : ∃ oc od cd sl, K.lookup C = some ⟨oc, od, .cls cd, sl⟩ ∧ cd.mro = .ref C :: bm
  ga : PySem.W.findIn K (.ref C) "__getattribute__" = some (some (.builtin "BaseException.__getattribute__"))
  gt : PySem.W.findIn K (.ref C) "__getattr__" = some none
  cl : PySem.W.findIn K (.ref C) "__class__" = some (some (.builtin "object.__class__"))
/-- the class's own object -/
structure ExcC (h : Heap) (C : Addr) (bm : List Value) : Prop where
  ob : ∃ N nm qn bs hd sn sub ab col dd k0 k1 k2 k3 k5 mN, h.get? C = some (excClassObj nm qn C N bs bm hd sn sub ab col dd k0 k1 k2 k3 k5 "ValueError.__new__") ∧ h.Ns N mN ∧ mN "__init__" = none ∧ OwnTail h bmV bm
theorem Exc.at {K : PySem.W.Frag} {C : Addr} {bm : List Value} (Z : Exc K C bm) {h : Heap} (X : K.In h) : ExcC h C bm := by
  obtain ⟨oc, od, cd, sl, lk, hm⟩ := Z.mro
  have q := Z.ok
  unfold PySem.W.excIn at q
  rw [lk] at q
  split at q
  case h_2 => cases q
  case h_1 e =>
    injection e with e
    injection e with e1 e2 e3 e4
    injection e3 with e3
    subst e1 e2 e3 e4
    split at q
    case h_2 => cases q
    case h_1 C' bm' k0 k1 k2 k3 n k5 hm' hs =>
      simp only [Bool.and_eq_true, beq_iff_eq, Bool.not_eq_true'] at q
      obtain ⟨⟨⟨⟨⟨r1, r2⟩, r3⟩, r4⟩, r5⟩, r6⟩ := q
      rw [hm] at hm'
      injection hm' with g1 g2
      subst g2 r2
      have hsl : sl = #[k0, k1, k2, k3, some (.builtin "ValueError.__new__"), k5] := by
        obtain ⟨l⟩ := sl
        simp only at hs
        rw [hs]
      subst hsl
      obtain ⟨nm, bs, mro, ns, qn, hd, sn, sub, ab, col, del⟩ := cd
      dsimp only at hm r3 r5 r6
      subst hm r3
      exact ⟨ns, nm, qn, bs, hd, sn, sub, ab, col, od, k0, k1, k2, k3, k5, _, X _ _ lk, .of_isNs (PySem.W.isNs_of_in X r5), PySem.W.nsMap_none_of_in X r5 r6, PySem.W.tail_of_in X r4⟩
/-- what the top has written of an own exception class, with an __init__ of its own or without -/
structure ExcW (K : PySem.W.Frag) (C : Addr) (bm : List Value) : Prop where
  ob : ∀ h : Heap, K.In h → ∃ nm qn N bs hd sn sub ab col dd k0 k1 k2 k3 k5, h.get? C = some (excClassObj nm qn C N bs bm hd sn sub ab col dd k0 k1 k2 k3 k5 "ValueError.__new__") ∧ OwnTail h bmV bm
  ga : PySem.W.findIn K (.ref C) "__getattribute__" = some (some (.builtin "BaseException.__getattribute__"))
  gt : PySem.W.findIn K (.ref C) "__getattr__" = some none
  cl : PySem.W.findIn K (.ref C) "__class__" = some (some (.builtin "object.__class__"))
theorem Exc.w {K : PySem.W.Frag} {C : Addr} {bm : List Value} (Z : Exc K C bm) : ExcW K C bm := by
  refine ⟨fun h X => ?_, Z.ga, Z.gt, Z.cl⟩
  obtain ⟨N, nm, qn, bs, hd, sn, sub, ab, col, dd, k0, k1, k2, k3, k5, mN, hC, hN, hni, T⟩ := (Z.at X).ob
  exact ⟨_, _, _, _, _, _, _, _, _, _, _, _, _, _, _, hC, T⟩
/-- .. with an __init__ of its own at fI, over a class without one -/
structure ExcI (K : PySem.W.Frag) (C CK fI : Addr) : Prop where
  lk : ∃ nm qn N bs sn sub ab col dd k0 k1 k2 k3 k5, K.lookup C = some (excClassObj nm qn C N bs (.ref CK :: bmV) true sn sub ab col dd k0 k1 k2 k3 k5 "ValueError.__new__") ∧ PySem.W.nsOkIn K N = true ∧ PySem.W.nsIn K N "__init__" = some (some (.ref fI))
  bs : Exc K CK bmV
  ga : PySem.W.findIn K (.ref C) "__getattribute__" = some (some (.builtin "BaseException.__getattribute__"))
  gt : PySem.W.findIn K (.ref C) "__getattr__" = some none
  cl : PySem.W.findIn K (.ref C) "__class__" = some (some (.builtin "object.__class__"))
  sa : PySem.W.findIn K (.ref C) "__setattr__" = some (some (.builtin "object.__setattr__"))
  fn : PySem.W.isFn K (.ref fI) = true
theorem ns_some_of {K : PySem.W.Frag} {h : Heap} {N : Addr} {m : Str → Option Value} {x : Str} {v : Value} (X : K.In h) (G : h.Ns N m) (e : PySem.W.nsIn K N x = some (some v)) : m x = some v := by
  obtain ⟨o, es, ep, ho, hd, _, hf⟩ := G
  unfold PySem.W.nsIn at e
  split at e
  case h_2 => cases e
  case h_1 q =>
    have z := X _ _ q
    rw [ho] at z
    cases z
    cases hd
    split at e
    case h_1 he =>
      cases e
      rw [← hf]
      unfold nsFind findBy
      rw [← Array.find?_toList, he]
      rfl
    case h_2 => split at e <;> cases e
/-- the class's own object -/
theorem ExcI.at {K : PySem.W.Frag} {C CK fI : Addr} (Z : ExcI K C CK fI) {h : Heap} (X : K.In h) : ∃ nm qn N bs sn sub ab col dd k0 k1 k2 k3 k5 mN, h.get? C = some (excClassObj nm qn C N bs (.ref CK :: bmV) true sn sub ab col dd k0 k1 k2 k3 k5 "ValueError.__new__") ∧ h.Ns N mN ∧ mN "__init__" = some (.ref fI) ∧ OwnTail h bmV (.ref CK :: bmV) := by
  obtain ⟨nm, qn, N, bs, sn, sub, ab, col, dd, k0, k1, k2, k3, k5, lk, r1, r2⟩ := Z.lk
  obtain ⟨N', _, _, _, _, _, _, _, _, _, _, _, _, _, _, mN', hC', hN', hni', T'⟩ := (Z.bs.at X).ob
  have G : h.Ns N (h.nsMap N) := .of_isNs (PySem.W.isNs_of_in X r1)
  exact ⟨nm, qn, N, bs, sn, sub, ab, col, dd, k0, k1, k2, k3, k5, _, X _ _ lk, G, ns_some_of X G r2, .own hC' hN' hni' .base⟩
theorem ExcI.w {K : PySem.W.Frag} {C CK fI : Addr} (Z : ExcI K C CK fI) : ExcW K C (.ref CK :: bmV) := by
  refine ⟨fun h X => ?_, Z.ga, Z.gt, Z.cl⟩
  obtain ⟨nm, qn, N, bs, sn, sub, ab, col, dd, k0, k1, k2, k3, k5, mN, hC, _, _, T⟩ := Z.at X
  exact ⟨_, _, _, _, _, _, _, _, _, _, _, _, _, _, _, hC, T⟩
/-- an exception of the class at C stands at a -/
def ExcO (a C : Addr) (dd : Option Addr) (h : Heap) : Prop := ∃ o vs, h.get? a = some o ∧ o.cls = .ref C ∧ o.dict = dd ∧ o.data = .fields vs
section
variable {prog : Program} {w : World} {A : Around} {E : Value → Shared → Prop} {h : Heap} {g : Array GenState} {d : Drawn} {t : Nat} {os : OsState} {a C : Addr} {o : Obj} {bm : List Value} {K : PySem.W.Frag}
theorem xcls_get {R : Result → Shared → Prop} (Z : ExcW K C bm) (X : K.In h) (hx : h.get? a = some o) (hc : o.cls = .ref C) (hq : R (.ok (.ret (.ref C))) ⟨h, g, d, t, os⟩) :
    codeAny (model prog w) A (.call (.builtin "getset_descriptor.__get__") ⟨[.builtin "object.__class__", .ref a, .ref C], []⟩) R ⟨h, g, d, t, os⟩ := by
  obtain ⟨nm, qn, N, bs, hd, sn, sub, ab, col, dd, k0, k1, k2, k3, k5, hC, T⟩ := Z.ob _ X
  have hT5 : (⟨h, g, d, t, os⟩ : Shared).TypeIs (.builtin "object.__class__") "getset_descriptor" := F.typeOf_object_class
  have hcB : (Value.ref C :: bm).contains (.type (".".intercalate ("object.__class__".cutAt '.').dropLast)) = true := by
    rw [F.owner_object_class, List.contains_cons, T.hasType (b := true) (by rfl)]
    rfl
  refine codeAny_call_builtin F.slot_gs_get.plain F.entry_gs_get (F.slot_gs_get.check _ _ _ _ _ _ _ _ hT5 (F.args_gs_get _ _ _) ?_)
  repeat (any_goals (first | assumption | (with_reducible refine wpAny_loadPart_at hx ?_; rw [hc]) | (with_reducible refine wpAny_isSubtype_exc hC ?_; rw [hcB]) | wp_step))
  refine ⟨Code.quiet_builtin _ (by decide +kernel), codeAny_builtin F.entry_object_class ?_⟩
  repeat (any_goals (first | assumption | (with_reducible refine wpAny_loadPart_at hx ?_; rw [hc]) | wp_step))
theorem xcls_entry {tk : Tok} {Q : Fin → Shared → Prop} (Z : ExcW K C bm) (X : K.In h) (hx : h.get? a = some o) (hc : o.cls = .ref C) (hq : Q (.done (.ret (.ref C))) ⟨h, g, d, t, os⟩) :
    wpAny (model prog w) A (Builtin.«object.__getattribute__» ⟨[.ref a, .str "__class__" tk], []⟩) Q E ⟨h, g, d, t, os⟩ := by
  have hT5 : (⟨h, g, d, t, os⟩ : Shared).TypeIs (.builtin "object.__class__") "getset_descriptor" := F.typeOf_object_class
  have f5 := F.typeOf_object_class
  have f6 := F.slot_gs_get.lookup
  have f7 := F.slot_gs_set.lookup
  have LK : ∀ M : Model, PySem.W.Looks M h (typeLookup (.ref C) "__class__") (some (.builtin "object.__class__")) := fun M => PySem.W.looks_findIn X Z.cl
  repeat (any_goals (first | assumption | (with_reducible refine wpAny_loadPart_at hx ?_; rw [hc]) | with_reducible refine (LK _).at ?_ | wp_step))
  refine xcls_get Z X hx hc ?_
  repeat (any_goals (first | assumption | wp_step))
theorem xcls_check {M : Model} {nameV : Value} {Q : Unit → Shared → Prop} (Z : ExcW K C bm) (X : K.In h) (hx : h.get? a = some o) (hc : o.cls = .ref C) (hq : Q () ⟨h, g, d, t, os⟩) : wpAny M A (checkBuiltinCall "BaseException.__getattribute__" ⟨[.ref a, nameV], []⟩) Q E ⟨h, g, d, t, os⟩ := by
  obtain ⟨nm, qn, N, bs, hd, sn, sub, ab, col, dd, k0, k1, k2, k3, k5, hC, T⟩ := Z.ob _ X
  have hk : builtinKind "BaseException.__getattribute__" = some .slot := by decide +kernel
  have hsplit : splitId "BaseException.__getattribute__" = some ("BaseException", "__getattribute__") := by decide +kernel
  have hcB : (Value.ref C :: bm).contains (.type "BaseException") = true := by rw [List.contains_cons, T.hasType (b := true) (by rfl)]; rfl
  have ha := F.args_bexc_ga (.ref a) nameV
  simp only [checkBuiltinCall, hk, hsplit]
  refine wpAny_bind ?_
  unfold isInstance
  repeat (first | (with_reducible refine wpAny_loadPart_at hx ?_; rw [hc]) | (with_reducible refine wpAny_isSubtype_exc hC ?_; rw [hcB]) | wp_step)
  exact hq
theorem xcls_by {tk : Tok} {Q : Value → Shared → Prop} (Z : ExcW K C bm) (X : K.In h) (hx : h.get? a = some o) (hc : o.cls = .ref C) (hq : Q (.ref C) ⟨h, g, d, t, os⟩) :
    wpAny (model prog w) A (getAttrBy (.ref a) (.str "__class__" tk) false) Q E ⟨h, g, d, t, os⟩ := by
  have FB := F.attrBase_ValueError
  have f3 := FB.ga.bind (.ref a)
  have hx2 : (Value.builtin "BaseException.__getattribute__" == Value.builtin "object.__getattribute__") = false := by decide +kernel
  have hx1 : (onTheHeap (Value.ref C) && Value.builtin "BaseException.__getattribute__" == Value.builtin "object.__getattribute__") = false := by rw [hx2]; rfl
  have L1 : ∀ M : Model, PySem.W.Looks M h (typeLookup (.ref C) "__getattribute__") (some (.builtin "BaseException.__getattribute__")) := fun M => PySem.W.looks_findIn X Z.ga
  have L2 : ∀ M : Model, PySem.W.Looks M h (typeLookup (.ref C) "__getattr__") none := fun M => PySem.W.looks_findIn X Z.gt
  repeat (any_goals (first | assumption | (with_reducible refine wpAny_loadPart_at hx ?_; rw [hc]) | with_reducible refine (L1 _).at ?_ | with_reducible refine (L2 _).at ?_ | wp_step))
  refine codeAny_call_builtin FB.ga.plain F.entry_bexc_ga (xcls_check Z X hx hc (xcls_entry Z X hx hc ?_))
  repeat (any_goals (first | assumption | wp_step))
theorem xcls_attr {Q : Option Value → Shared → Prop} (Z : ExcW K C bm) (X : K.In h) (hx : h.get? a = some o) (hc : o.cls = .ref C) (hq : Q (some (.ref C)) ⟨h, g, d, t + 1, os⟩) : wpAny (model prog w) A (getAttr? (.ref a) "__class__") Q E ⟨h, g, d, t, os⟩ := by
  unfold getAttr? getAttrBy?
  repeat (any_goals (first | assumption | with_reducible apply xcls_by Z X hx hc | wp_step))
end
end L2

/-! AN OWN EXCEPTION IS MADE by its class's own __init__ -/
namespace L2
open PySem PySem.Spec PyProof.Rows
abbrev tupO (vs : List Value) : Obj := { cls := .type "tuple", data := .seq vs.toArray }
abbrev rawX (C t : Addr) : Obj := { cls := .ref C, data := .fields #[.ref t, .none, .none, .none, .bool false, .none] }
section
variable {prog : Program} {w : World} {A : Around} {E : Value → Shared → Prop} {h : Heap} {g : Array GenState} {d : Drawn} {t : Nat} {os : OsState} {K : PySem.W.Frag} {C CK fI : Addr}
theorem tcallX (Z : ExcI K C CK fI) (X : K.In h) {us : List Value} {Q : Fin → Shared → Prop} (hz : us.length ≤ sizeLine)
    (hq : wpAny (model prog w) A (call (.ref fI) (.ref (h.objs.size + 1) :: us)) (fun r s' => r = .none ∧ Q (.done (.ret (.ref (h.objs.size + 1)))) s') E ⟨(h.push (tupO us)).push (rawX C h.objs.size), g, d, t, os⟩) :
    wpAny (model prog w) A (Builtin.«type.__call__» ⟨.ref C :: us, []⟩) Q E ⟨h, g, d, t, os⟩ := by
  obtain ⟨nm, qn, N, bs, sn, sub, ab, col, dd, k0, k1, k2, k3, k5, mN, hC, hN, hi, T⟩ := Z.at X
  have V := F.excBase_ValueError
  have kp : ∀ b o, h.get? b = some o → ((h.push (tupO us)).push (rawX C h.objs.size)).get? b = some o := fun b o e => Heap.get?_push_of_some _ (Heap.get?_push_of_some _ e)
  have hC' := kp _ _ hC
  have hx : ((h.push (tupO us)).push (rawX C h.objs.size)).get? (h.objs.size + 1) = some (rawX C h.objs.size) := by heap_get
  have cC : (Value.ref C :: .ref CK :: bmV).contains (.ref C) = true := by simp
  have bf := PySem.W.bind_fn (M := model prog w) (X.keeps kp) (.ref (h.objs.size + 1)) (beq_iff_eq.mp Z.fn)
  repeat (first | (with_reducible refine wpAny_loadPart_at hC ?_) | (with_reducible refine wpAny_madeBy_exc hC ?_) | wp_step)
  refine codeAny_call_builtin_code (Code.quiet_builtin _ V.quiet)
    (wpAny_check_new_subT V T hC (codeAny_exc_new_subT V T hC ?_ hz))
  show wpAny _ _ _ _ _ _
  unfold isInstance
  repeat (first | (with_reducible refine wpAny_loadPart_at hx ?_) | (with_reducible refine wpAny_isSubtype_exc hC' ?_; rw [cC]) | wp_step)
  show wpAny _ _ (typeLookup (.ref C) "__init__") _ _ _
  refine wpAny_typeLookup_tail hC' (hN.keeps kp) (T.keeps kp) V.mroIs V.init.lookup ?_
  rw [hi]
  refine wpAny_holding (wpAny_bind (bf.at (wpAny_bind (wpAny_mono hq (fun r s' z => ?_) fun _ _ z => z))))
  obtain ⟨rfl, z⟩ := z
  wp_walk
  exact z
theorem callX (Z : ExcI K C CK fI) (X : K.In h) {us : List Value} {Q : Value → Shared → Prop} (hz : us.length ≤ sizeLine)
    (hq : wpAny (model prog w) (A.under (.builtin "type.__call__" ⟨.ref C :: us, []⟩)) (call (.ref fI) (.ref (h.objs.size + 1) :: us)) (fun r s' => r = .none ∧ Q (.ref (h.objs.size + 1)) s') E ⟨(h.push (tupO us)).push (rawX C h.objs.size), g, d, t, os⟩) :
    wpAny (model prog w) A (call (.ref C) us) Q E ⟨h, g, d, t, os⟩ := by
  obtain ⟨nm, qn, N, bs, sn, sub, ab, col, dd, k0, k1, k2, k3, k5, mN, hC, hN, hi, T⟩ := Z.at X
  have a1 := tc_lookup
  have a2 := tc_bind (.ref C)
  have a3 : (⟨h, g, d, t, os⟩ : Shared).TypeIs (.ref C) "type" := ⟨_, hC, rfl⟩
  refine wpAny_call (codeAny_of_tree ?_)
  show wpAny _ _ (callAny (.ref C) ⟨us, []⟩) _ _ _
  repeat (any_goals (first | assumption | (with_reducible refine wpAny_loadPart_at hC ?_) | wp_step))
  refine ⟨rfl, codeAny_call_builtin_at (Code.quiet_builtin _ (by decide +kernel)) entry_typeCall
    (wpAny_check_type_call_sub hC (tcallX Z X hz hq))⟩
end
end L2

/-! AN ATTRIBUTE IS STORED on an exception that is not raised yet -/
namespace L2
open PySem PySem.Spec PyProof.Rows
/-- an exception that is not raised yet: no traceback -/
def RawX (a C : Addr) (dd : Option Addr) (h : Heap) : Prop := ∃ t0 : Addr, h.get? a = some ⟨.ref C, dd, .fields #[.ref t0, .none, .none, .none, .bool false, .none], #[]⟩
theorem refuse_bmV (self : Value) : refuseLoop self "__setattr__" bmV = pure () := by kernel_rfl
section
variable {prog : Program} {w : World} {A : Around} {E : Value → Shared → Prop} {s : Shared} {K : PySem.W.Frag} {C CK fI x : Addr} {name : Str} {v : Value}
theorem ExcI.cd (Z : ExcI K C CK fI) : ∃ cd, PySem.W.clsIn K C = some cd ∧ cd.mro = .ref C :: .ref CK :: bmV ∧ cd.hasDict = true := by
  obtain ⟨nm, qn, N, bs, sn, sub, ab, col, dd, k0, k1, k2, k3, k5, lk, _⟩ := Z.lk
  have e : PySem.W.clsIn K C = some { name := nm, bases := bs, mro := .ref C :: .ref CK :: bmV, ns := N, qualname := qn, hasDict := true, slotNames := sn, subclasses := sub, abstract := ab, collection := col, hasDel := false } := by
    unfold PySem.W.clsIn
    rw [lk]
  exact ⟨_, e, rfl, rfl⟩
theorem setX {Q : Unit → Shared → Prop} (Z : ExcI K C CK fI) (X : K.In s.heap) (hx : RawX x C none s.heap) (hp : PySem.W.findIn K (.ref C) name = some none)
    (q : ∀ h', h'.Ns1 s.heap.objs.size (fun y => if y = name then some v else none) → RawX x C (some s.heap.objs.size) h' → (∀ b o, b ≠ x → s.heap.get? b = some o → h'.get? b = some o) → Q () { s with heap := h', toks := s.toks + 2 }) :
    wpAny (model prog w) A (setAttr (.ref x) name v) Q E s := by
  obtain ⟨t0, ho⟩ := hx
  generalize hvs : (#[.ref t0, .none, .none, .none, .bool false, .none] : Array Value) = vs at ho
  obtain ⟨cd, hc, hm, hd⟩ := Z.cd
  have J : PySem.W.InstAt s.heap x ⟨.ref C, none, .fields vs, #[]⟩ C none := ⟨ho, rfl, rfl, trivial⟩
  have SO := PySem.F.store_object
  have isO : PySem.W.Looks (model prog w) s.heap (isInstance (.ref x) (.type "object")) true := J.type.andThen (PySem.W.looks_mroIn X (by unfold PySem.W.mroIn; rw [hc, Option.bind_some, hm]; rfl))
  have hmro : PySem.W.Looks (model prog w) s.heap (mroOf (.ref C)) (.ref C :: .ref CK :: bmV) := hm ▸ (PySem.W.looks_clsIn X hc).andThen .now
  refine PySem.W.set_plain X J Z.sa ?_
  refine codeAny_call_builtin SO.slot.plain SO.entry (@PySem.W.check_slot (model prog w) _ _ { s with toks := s.toks + 1 } "object.__setattr__" "object" "__setattr__" (.ref x) [.str name s.toks, v] [] _ SO.kind SO.split isO (SO.args (.ref x) (.str name s.toks) v) ?_)
  rw [PySem.W.osa_eq, refuse_eq]
  refine wpAny_bind (wpAny_bind (J.type.at (wpAny_bind (hmro.at ?_))))
  rw [refuseLoop_ref, refuseLoop_ref, refuse_bmV]
  refine wpAny_pure (wpAny_bind (J.type.at (wpAny_bind ((PySem.W.looks_findIn X hp).at (wpAny_bind (wpAny_pure ?_))))))
  -- the dict is made
  have e0 : ∀ (hh : Heap), hh.get? x = some ⟨.ref C, none, .fields vs, #[]⟩ → (hh.update x fun o => { o with dict := some s.heap.objs.size }).get? x = some ⟨.ref C, some s.heap.objs.size, .fields vs, #[]⟩ := fun hh z => Heap.get?_update_self _ z rfl
  refine wpAny_bind (wpAny_pure (wpAny_bind (wpAny_bind (wpAny_loadPart ho (wpAny_bind ((PySem.W.looks_clsIn X hc).at ?_))))))
  rw [hd]
  refine wpAny_bind (wpAny_alloc ?_)
  have nx : s.heap.objs.size ≠ x := Nat.ne_of_gt (Heap.lt_size ho)
  have ho2 : (s.heap.push { cls := .type "dict", data := .dict #[] }).get? x = some ⟨.ref C, none, .fields vs, #[]⟩ := Heap.get?_push_of_some _ ho
  have hD : (s.heap.push { cls := .type "dict", data := .dict #[] }).get? s.heap.objs.size = some { cls := .type "dict", data := .dict #[] } := Heap.get?_push_size s.heap rfl
  refine wpAny_bind (wpAny_update ho2 (wpAny_pure (a := some s.heap.objs.size) (wpAny_bind (wpAny_pure (wpAny_bind ?_)))))
  have hx3 := e0 _ ho2
  have hD3 : ((s.heap.push { cls := .type "dict", data := .dict #[] }).update x fun o => { o with dict := some s.heap.objs.size }).get? s.heap.objs.size = some { cls := .type "dict", data := .dict #[] } := (Heap.get?_update_other _ _ (Ne.symm nx)).trans hD
  have k3 : ∀ b o, b ≠ x → s.heap.get? b = some o → ((s.heap.push { cls := .type "dict", data := .dict #[] }).update x fun o => { o with dict := some s.heap.objs.size }).get? b = some o := fun b o hb z => (Heap.get?_update_other _ _ (Ne.symm hb)).trans (Heap.get?_push_of_some _ z)
  generalize (s.heap.push { cls := .type "dict", data := .dict #[] }).update x (fun o => { o with dict := some s.heap.objs.size }) = h3 at hx3 hD3 k3 ⊢
  have n3 : h3.Ns1 s.heap.objs.size fun _ => none := Heap.Ns1.of_empty ⟨_, #[], _, hD3, rfl, (fun e he => absurd he (by simp)), fun _ => rfl⟩
  refine wpAny_nsSet1 (s := { s with heap := h3, toks := s.toks + 1 }) n3 fun h' hn2 hs2 => ?_
  obtain ⟨oD, esD, epD, hoD, hdD, hcD⟩ := hn2.count (PySem.Within.cons name v (fun y hy => absurd rfl hy : PySem.Within (fun _ => none) []))
  refine wpAny_bind (wpAny_lookBehind hoD (by rw [hdD]; exact pastItsLine_dict (Nat.le_trans hcD (by rw [sizeLine_eq]; show 1 ≤ _; decide))) ?_)
  exact wpAny_pure (q h' hn2 ⟨t0, by rw [hvs]; exact (hs2.2 _ (Ne.symm nx)).trans hx3⟩ fun b o hb z => (hs2.2 b (Nat.ne_of_lt (Heap.lt_size z))).trans (k3 b o hb z))
end
end L2

/-! the base's __init__ is called on it; texts with numbers in them -/
namespace L2
open PySem PySem.Spec PyProof.Rows
section
variable {prog : Program} {w : World} {A : Around} {E : Value → Shared → Prop} {s : Shared} {K : PySem.W.Frag} {C CK fI x : Addr}
theorem initX {us : List Value} {Q : Value → Shared → Prop} (Z : ExcI K C CK fI) (X : K.In s.heap) (hx : RawX x C none s.heap) (hz : us.length ≤ sizeLine)
    (q : ∀ h', RawX x C none h' → (∀ b o, b ≠ x → s.heap.get? b = some o → h'.get? b = some o) → Q .none { s with heap := h' }) :
    wpAny (model prog w) A (call (.builtin "ValueError.__init__") (.ref x :: us)) Q E s := by
  obtain ⟨nm, qn, N, bs, sn, sub, ab, col, dd, k0, k1, k2, k3, k5, mN, hC, hN, hi, T⟩ := Z.at X
  obtain ⟨h, g, d, t, os⟩ := s
  obtain ⟨t0, ho⟩ := hx
  have V := F.excBase_ValueError
  have nx : h.objs.size ≠ x := Nat.ne_of_gt (Heap.lt_size ho)
  refine wpAny_call (codeAny_call_builtin V.init.plain V.initEntry (wpAny_check_init_subT V T hC ho rfl ?_))
  wp_walk
  exact q _ ⟨h.objs.size, Heap.get?_update_self _ (Heap.get?_push_of_some _ ho) rfl⟩ fun b o hb z => (Heap.get?_update_other _ _ (Ne.symm hb)).trans (Heap.get?_push_of_some _ z)
end
/-! ### texts with numbers in them -/
section
variable {X : Cx} {e a b : Expr} {es : List Expr} {te : TE} {t : Str → TE} {pos : Pos}
def PJ (X : Cx) (es : List Expr) (t : Str → TE) : Prop :=
  ∀ (pins : List (Addr × Obj)) (s : Shared) (σ : St) (H : Hp) (acc : Str) (Q : VK), Inv X pins σ H s → t acc σ H Q → wpAny (model X.prog X.w) X.A (joinParts acc (evalEach es X.env)) (EP X pins σ Q) X.xe s
def jNil : Str → TE := fun acc _ H Q => acc.length ≤ sizeLine ∧ Q (.str acc) H
def jCons (te : TE) (t : Str → TE) : Str → TE := fun acc σ H Q => te σ H fun x H1 => ∃ y, x = .str y ∧ (acc ++ y).length ≤ sizeLine ∧ t (acc ++ y) σ H1 Q
theorem pj_nil : PJ X [] jNil := fun _ _ _ H acc _ I h => joinParts_nil ⟨.str acc, H, I.tok _, ⟨_, rfl⟩, h.2⟩ h.1
theorem pj_cons (he : PE X e te) (hr : PJ X es t) : PJ X (e :: es) (jCons te t) := by
  intro pins s σ H acc Q I h
  refine joinParts_cons (thn (he pins s σ H _ I h) fun v s1 ⟨x, H1, I1, r1, y, ex, hz, q⟩ => ?_)
  subst ex
  obtain ⟨tk, rfl⟩ := r1
  exact ⟨hz, hr pins s1 σ H1 _ Q I1 q⟩
theorem pe_joined (h : PJ X (a :: b :: es) t) : PE X (.JoinedStr (a :: b :: es) pos) (t Str.empty) := fun pins s σ H Q I hq => JoinedStr_many (h pins s σ H Str.empty Q I hq)
theorem pe_fmtI (he : PE X e te) : PE X (.FormattedValue e (-1) none pos) (fun σ H Q => te σ H fun x H1 => ∃ i : Int, x = .int i ∧ i.natAbs.log2 < 1920 ∧ Q (.str (Str.ofString (toString i))) H1) := by
  intro pins s σ H Q I h
  refine FormattedValue_plain (thn (he pins s σ H _ I h) fun v s1 ⟨x, H1, I1, r1, i, ex, hi, q⟩ => ?_)
  subst ex
  obtain ⟨tk, rfl⟩ := r1
  exact formatField_int_small hi ⟨.str (Str.ofString (toString i)), H1, I1.tok _, ⟨_, rfl⟩, q⟩
end
end L2

/-! own exceptions with an __init__ in the layer: made, given attributes, their base's __init__ -/
namespace L2
open PySem PySem.Spec PyProof.Rows
/-- not raised yet -/
def rawHO (a C : Addr) (dd : Option Addr) : HO := .ext (RawX a C dd)
theorem RawX.ok {P : Program} {w : World} {H : Hp} {h : Heap} {a C : Addr} {dd : Option Addr} (x : RawX a C dd h) : ObjOk P w H h a (rawHO a C dd) := by
  obtain ⟨t0, e⟩ := id x
  exact ⟨x, ⟨_, e⟩, fun h1 h2 ⟨t1, e1⟩ k => ⟨t1, k _ e1⟩⟩
section
variable {X : Cx} {pins : List (Addr × Obj)} {σ : St} {H : Hp} {s : Shared} {a C CK fI dx : Addr} {dd : Option Addr}
theorem Inv.raw (I : Inv X pins σ H s) (h : H a = some (rawHO a C dd)) : RawX a C dd s.heap := (I.hok a _ h).1
/-- what is asked of the base to call its __init__ by its name -/
structure BInit (K : PySem.W.Frag) (CK : Addr) : Prop where
  sp : PySem.W.specialIn K (.ref CK) "__getattribute__" = some (some (.builtin "type.__getattribute__"))
  rd : PySem.W.readsIn K CK (.type "type") = true
  fc : PySem.W.findCls K (.ref CK) (.type "type") "__init__" = some (.val (.builtin "ValueError.__init__"))
/-- B.__init__(self, ..) -/
def tBin (C : Addr) (t : TA) : TE := fun σ H Q => t σ H fun vs H1 => ∃ a us, vs = .ref a :: us ∧ H1 a = some (rawHO a C none) ∧ us.length ≤ sizeLine ∧ Q .non (upd H1 a (rawHO a C none))
theorem pe_binit {x : Str} {p apos pos : Pos} {e : Expr} {es : List Expr} {t : TA} {pl : Sem Bool} (Z : ExcI X.K C CK fI) (B : BInit X.K CK) (hg : Gl X x) (hm : X.mg x = some (.ref CK)) (ha : PA X (e :: es) t)
    (hdb : (x == ("__debug__" : Str)) = false := by decide) (hst : starEach (e :: es) X.env = (false, eval e X.env) :: starEach es X.env := by rfl) (hpl : (backTo pos (starEach es X.env)).any (·.1) = false := by rfl)
    (ht : eval (.Call (.Attribute (.Name x p) "__init__" apos) (e :: es) [] pos) X.env = (eval (.Name x p) X.env >>= fun ov => standAt apos.atName >>= fun _ => holding [ov] (getMethod ov "__init__" pl) >>= fun fx =>
      callWith pos fx.1 fx.2 (backTo pos (starEach (e :: es) X.env)) (backToKw pos (keywordEach [] X.env))) := by rfl) :
    PE X (.Call (.Attribute (.Name x p) "__init__" apos) (e :: es) [] pos) (tBin C t) := by
  intro pins s σ H Q I h
  refine PySem.W.methodCall_KW (pl := pl) (ld_glob I hg hm ?_ hdb) ht
  refine PySem.W.method_cls I.kIn B.sp (PySem.W.cls_value I.kIn B.rd B.fc rfl ?_)
  have I0 : Inv X pins σ H { s with toks := s.toks + 1 } := I.tok _
  refine PyProof.Rows.callWith_builtin1 (thn (ha pos pins _ σ H _ I0 h) fun us s1 ⟨vs, H1, I1, r1, a, ws, ev, ea, hz, q⟩ => ?_) hst hpl
  subst ev
  cases r1 with
  | cons r r' =>
    cases r
    refine initX Z I1.kIn (I1.raw ea) (by rw [← r'.length]; exact hz) fun h' hx k => ?_
    obtain ⟨t0, e0⟩ := id hx
    exact ⟨.non, _, I1.write (x := a) (e := a) (t' := s1.toks) (by rw [ea]; exact True.intro) (.inl rfl) (fun b u hb z => k b u hb z) ⟨_, e0⟩ hx.ok, rfl, q⟩
/-- self.name = value -/
def sSetX (C : Addr) (name : Str) (ta tv : TE) : TS := fun D σ H => tv σ H fun y H1 => ta σ H1 fun x H2 => ∃ a, x = .ref a ∧ H2 a = some (rawHO a C none) ∧ ∀ dx, H2 dx = none → dx ≠ a → D.nx σ (upd (upd H2 dx (.xd [(name, y)])) a (rawHO a C (some dx)))
theorem ps_setX {o value : Expr} {name : Str} {pos pos' : Pos} {ta tv : TE} (Z : ExcI X.K C CK fI) (hn : PySem.W.findIn X.K (.ref C) name = some none) (ha : PE X o ta) (hv : PE X value tv)
    (hs : swapsWith value (some (.Attribute o name pos')) pos.line X.env = pure false := by rfl) : PS X (.Assign [.Attribute o name pos'] value pos) (sSetX C name ta tv) := by
  intro pins s σ H D I h
  refine plainObj_wpAny_Assign_Attribute (thn (hv pins s σ H _ I h) fun u s1 ⟨y, H1, I1, ry, q⟩ => thn (ha pins s1 σ H1 _ I1 q) fun ov s2 ⟨x, H2, I2, rx, a, ex, ea, q2⟩ => ?_) hs
  subst ex
  obtain rfl : ov = Value.ref a := rx
  refine setX Z I2.kIn (I2.raw ea) hn fun h' n' x' k => ?_
  have hf : H2 s2.heap.objs.size = none := I2.hok.fresh (Nat.le_refl _)
  have ne : s2.heap.objs.size ≠ a := Nat.ne_of_gt (I2.hok a _ ea).lt
  refine ⟨σ, _, ?_, q2 _ hf ne⟩
  obtain ⟨t0, e0⟩ := id (I2.raw ea)
  obtain ⟨t1, e1⟩ := id x'
  obtain ⟨oD, esD, epD, eD, rD⟩ := id n'
  have xdok : ∀ (H' : Hp) (hh : Heap), hh.get? s2.heap.objs.size = some oD → ObjOk X.prog X.w H' hh s2.heap.objs.size (.xd [(name, y)]) := fun H' hh z => ⟨_, ⟨oD, esD, epD, z, rD⟩, fun g => by
    show RelO (List.lookup g [(name, y)]) (if g = name then some u else none)
    by_cases hg : g = name
    · subst hg
      rw [if_pos rfl, List.lookup_cons_self]
      exact ry
    · rw [if_neg hg, List.lookup_cons]
      have : (g == name) = false := by simpa using hg
      rw [this]
      exact True.intro⟩
  -- by way of a heap in which the exception is still as it was
  have em : (h'.update a fun _ => ⟨.ref C, none, .fields #[.ref t0, .none, .none, .none, .bool false, .none], #[]⟩).get? a = some ⟨.ref C, none, .fields #[.ref t0, .none, .none, .none, .bool false, .none], #[]⟩ := Heap.get?_update_self _ e1 rfl
  have om : ∀ b, b ≠ a → (h'.update a fun _ => ⟨.ref C, none, .fields #[.ref t0, .none, .none, .none, .bool false, .none], #[]⟩).get? b = h'.get? b := fun b hb => Heap.get?_update_other _ _ (Ne.symm hb)
  generalize (h'.update a fun _ => ⟨.ref C, none, .fields #[.ref t0, .none, .none, .none, .bool false, .none], #[]⟩) = hm at em om
  have J : Inv X pins σ (upd H2 s2.heap.objs.size (.xd [(name, y)])) { s2 with heap := hm, toks := s2.toks } := I2.laid (fun b o z => by
    by_cases hb : b = a
    · subst hb
      rw [e0] at z
      cases z
      exact em
    · rw [om b hb]
      exact k b o hb z) (Nat.le_refl _) (xdok _ _ ((om _ ne).trans eD))
  exact J.write (x := a) (e := a) (t' := s2.toks + 2) (by rw [upd_ne (Ne.symm ne), ea]; exact True.intro) (.inl rfl) (fun b o hb z => by rw [← om b hb]; exact z) ⟨_, e1⟩ x'.ok
end
end L2

/-! own exceptions with an __init__: made by a call, raised -/
namespace L2
open PySem PySem.Spec PyProof.Rows
section
variable {X : Cx} {pins : List (Addr × Obj)} {σ : St} {H : Hp} {s : Shared} {a C CK fI dx : Addr} {dd : Option Addr} {k : Nat} {fd : FuncData} {ps : List Str} {sp : Sp}
theorem run_makeX {us : List Value} {vs : List V} {Q : VK} (Z : ExcI X.K C CK fI) (G : FnOk X.prog X.w X.K X.mg X.base CX0 k fI fd ps sp) (hr : Room (k + 1) X.A) (hb : Binds X.K fd ps []) (I : Inv X pins σ H s) (r : Vals vs us) (hz : vs.length ≤ sizeLine)
    (h : ∀ x, H x = none → sp (.ref x :: vs) (upd H x (rawHO x C none)) (fun v H2 => v = .non ∧ Q (.ref x) H2) E0) : wpAny (model X.prog X.w) X.A (call (.ref C) us) (EP X pins σ Q) X.xe s := by
  obtain ⟨hp, g, d, t, os⟩ := s
  have hf : H (hp.objs.size + 1) = none := I.hok.fresh (Nat.le_succ _)
  have hq := h _ hf
  have e2 : ((hp.push (tupO us)).push (rawX C hp.objs.size)).get? (hp.objs.size + 1) = some (rawX C hp.objs.size) := by heap_get
  have I2 : Inv X pins σ (upd H (hp.objs.size + 1) (rawHO (hp.objs.size + 1) C none)) ⟨(hp.push (tupO us)).push (rawX C hp.objs.size), g, d, t, os⟩ :=
    I.laid (a := hp.objs.size + 1) (t' := t) (fun b u q => Heap.get?_push_of_some _ (Heap.get?_push_of_some _ q)) (Nat.le_succ _) (RawX.ok ⟨_, e2⟩)
  have r2 : Vals (V.ref (hp.objs.size + 1) :: vs) (Value.ref (hp.objs.size + 1) :: us) := .cons rfl r
  have hl : (Value.ref (hp.objs.size + 1) :: us).length = ps.length := by rw [← r2.length]; exact G.len _ _ _ _ hq
  have hb2 := hb _ (Value.ref (hp.objs.size + 1) :: us) I2.kIn (by rw [List.append_nil]; exact hl)
  rw [List.append_nil] at hb2
  refine callX Z I.kIn (by rw [← r.length]; exact hz) (wpAny_call (codeAny_mono (G.run _ X.stack _ _ ⟨Value.ref (hp.objs.size + 1) :: us, []⟩ _ _ _ E0 (hr.make C us []) (I2.env0.make C us []) hb2 r2 hq) fun rr s' q' => ?_))
  cases rr with
  | error e => exact False.elim q'
  | ok fl =>
    cases fl with
    | ret u =>
      obtain ⟨v, H', I3, rv, ev, q3⟩ := I2.after q'
      subst ev
      exact ⟨rv, V.ref (hp.objs.size + 1), H', I3, rfl, q3⟩
    | next => exact False.elim q'
    | brk => exact False.elim q'
    | cont => exact False.elim q'
def tMakeX (C : Addr) (sp : Sp) (t : TA) : TE := fun σ H Q => t σ H fun vs H1 => vs.length ≤ sizeLine ∧ ∀ x, H1 x = none → sp (.ref x :: vs) (upd H1 x (rawHO x C none)) (fun v H2 => v = .non ∧ Q (.ref x) H2) E0
theorem pe_makeX {x : Str} {p pos : Pos} {e : Expr} {es : List Expr} {t : TA} (Z : ExcI X.K C CK fI) (kp : PySem.W.keepIn X.K (.ref C) = true) (G : FnOk X.prog X.w X.K X.mg X.base CX0 k fI fd ps sp) (hr : Room (k + 1) X.A) (hb : Binds X.K fd ps []) (hg : Gl X x) (hm : X.mg x = some (.ref C))
    (ha : PA X (e :: es) t) (hdb : (x == ("__debug__" : Str)) = false := by decide) (he : starEach (e :: es) X.env = (false, eval e X.env) :: starEach es X.env := by rfl) (hpl : (backTo pos (starEach es X.env)).any (·.1) = false := by rfl) :
    PE X (.Call (.Name x p) (e :: es) [] pos) (tMakeX C sp t) := by
  intro pins s σ H Q I h
  refine wpAny_Call_Name_kw (ld_glob I hg hm ?_ hdb)
  exact PySem.W.callWith_K (h₀ := X.base) I.ok.mod.kin kp (thn (ha pos pins s σ H _ I h) fun us s1 ⟨vs, H1, I1, r, hz, q⟩ => ⟨I1.kIn, run_makeX Z G hr hb I1 r hz q⟩) he hpl
/-! ### raise -/
/-- what this body's wish about exceptions grants a raise -/
def RaiseOkD (X : Cx) (C : Addr) (R : Addr → Option Addr → Hp → Prop) : Prop := ∀ (pins : List (Addr × Obj)) (σ : St) (H : Hp) (s : Shared) (a : Addr) (dd : Option Addr), Inv X pins σ H s → H a = some (rawHO a C dd) → R a dd H → X.xe (.ref a) s
theorem ps_raiseE {bm : List Value} {ex : Expr} {te : TE} {pos : Pos} {R : Addr → Option Addr → Hp → Prop} (hc : X.calm = true) (Z : ExcW X.K C bm) (he : PE X ex te) (hR : RaiseOkD X C R) :
    PS X (.Raise (some ex) none pos) (fun _ σ H => te σ H fun v H1 => ∃ a dd, v = .ref a ∧ H1 a = some (rawHO a C dd) ∧ R a dd H1) := by
  intro pins s σ H D I h
  rw [arm_exec_Raise]
  refine wpAny_bind (wpAny_standAt ?_)
  show wpAny _ _ (raiseStmt X.env (some (eval ex X.env >>= fun v => standAt pos >>= fun _ => pure v)) none) _ _ s
  unfold raiseStmt
  refine wpAny_bind (wpAny_bind (thn (he pins s σ H _ I h) fun u s1 ⟨v, H1, I1, r1, a, dd, ev, ea, q⟩ => wpAny_bind (wpAny_standAt (wpAny_pure ?_))))
  subst ev
  cases (show u = Value.ref a from r1)
  obtain ⟨t0, e0⟩ := I1.raw ea
  obtain ⟨nm, qn, N, bs, hd, sn, sub, ab, col, dd', k0, k1, k2, k3, k5, hC, T⟩ := Z.ob _ I1.kIn
  have fin := hR pins σ H1 s1 a dd I1 ea q
  obtain ⟨hp, g, d, tk, os⟩ := s1
  have cB : (Value.ref C :: bm).contains (.type "BaseException") = true := by rw [List.contains_cons, T.hasType (b := true) (by rfl), Bool.or_true]
  repeat (first | (with_reducible refine wpAny_loadPart_at e0 ?_) | (with_reducible refine wpAny_loadPart_at hC ?_) | (with_reducible refine wpAny_isSubtype_exc hC ?_; rw [cB]) | wp_step)
  exact wpAny_raiseNew_none (I.ok.hd hc) fin
end
end L2

/-! an exception with a dict leaves the def that raises it -/
namespace L2
open PySem PySem.Spec PyProof.Rows
def del (H : Hp) (a : Addr) : Hp := fun b => if b = a then none else H b
theorem del_ne {H : Hp} {a b : Addr} (h : b ≠ a) : del H a b = H b := if_neg h
theorem del_same {H : Hp} {a : Addr} : del H a a = none := if_pos rfl
theorem del_upd {H : Hp} {a : Addr} {o : HO} : del (upd H a o) a = del H a := by
  funext b
  by_cases h : b = a
  · subst h; rw [del_same, del_same]
  · rw [del_ne h, del_ne h, upd_ne h]
theorem del_new {H : Hp} {a : Addr} (h : H a = none) : del H a = H := by
  funext b
  by_cases hb : b = a
  · subst hb; rw [del_same, h]
  · rw [del_ne hb]
theorem del_comm {H : Hp} {a b : Addr} {o : HO} (h : b ≠ a) : del (upd H b o) a = upd (del H a) b o := by
  funext c
  by_cases hc : c = a
  · subst hc; rw [del_same, upd_ne (Ne.symm h), del_same]
  · rw [del_ne hc]
    by_cases hb : c = b
    · subst hb; rw [upd_same, upd_same]
    · rw [upd_ne hb, upd_ne hb, del_ne hc]
theorem some_of {P : Program} {w : World} {H : Hp} {h : Heap} {a : Addr} {o : HO} (x : ObjOk P w H h a o) : ∃ u, h.get? a = some u := by
  induction o with
  | lst xs => obtain ⟨_, _, _, _, e⟩ := x; exact ⟨_, e⟩
  | tup xs => obtain ⟨_, _, _, ob, e, _⟩ := x; exact ⟨_, e⟩
  | dK kvs => obtain ⟨_, _, _, _, o, _, _, e, _⟩ := x; exact ⟨_, e⟩
  | dT kvs => obtain ⟨_, _, _, _, o, _, _, e, _⟩ := x; exact ⟨_, e⟩
  | set S n => obtain ⟨o, _, _, _, e, _⟩ := x; exact ⟨_, e⟩
  | ins C dx fs => obtain ⟨_, _, _, e, _⟩ := x; exact ⟨_, e⟩
  | own y => exact x
  | xd fs => obtain ⟨_, ⟨_, _, _, e, _⟩, _⟩ := x; exact ⟨_, e⟩
  | rng lo hi => obtain ⟨_, _, _, e⟩ := x; exact ⟨_, e⟩
  | frz ob u ih => obtain ⟨e, _⟩ := x; exact ⟨_, e⟩
  | tbl ps => exact ⟨_, (show h.get? a = Option.some _ from x)⟩
  | met f y => exact ⟨_, (show h.get? a = Option.some _ from x)⟩
  | ext φ => obtain ⟨_, e, _⟩ := x; exact e
/-- on its way to the frames outer; B: all that was there ahead of it, but the frames -/
structure FlyO (outer : List Env) (H' : Hp) (s s' : Shared) (a C : Addr) (dd : Option Addr) : Prop where
  fly : ∃ B : Heap, FlyD B outer a (.ref C) dd .none s'.heap ∧ ∀ b o, b ∉ frs outer → s'.heap.get? b = some o → ((∃ o', s.heap.get? b = some o') ∨ H' b ≠ none) → B.get? b = some o
/-- how an exception, with its dict or without one, lies behind a call of a def that raises -/
def CXd (P : Program) (w : World) : CXT := fun outer H s E e s' => ∃ (a C : Addr) (dd : Option Addr) (H' : Hp), e = .ref a ∧ E (.ref C) dd H' ∧ s'.os = s.os ∧ AllBare s'.gens ∧ Un (frs outer) [] H H' s.heap s'.heap ∧ HOk P w H' s'.heap ∧ H' a = none ∧ s.heap.get? a = none ∧ FlyO outer H' s s' a C dd
section
variable {P : Program} {w : World} {K : PySem.W.Frag} {mg : Str → Option Value} {base : Heap} {N : List Str} {qual : Str} {scope : Scope} {f : Addr} {cd : Value} {A : Around} {outer : List Env} {s₀ : Shared} {H₀ : Hp} {E : XK}
theorem raise_okD {C : Addr} : RaiseOkD (cxOf (CXd P w) P w K mg base N qual scope f cd A outer s₀ H₀ E) C (fun a dd H => H₀ a = none ∧ E (.ref C) dd (del H a)) := by
  intro pins σ H s a dd I ha hE
  obtain ⟨h0, hE⟩ := hE
  have stk : s.heap.FunFrames base (envOfC qual scope s₀.heap.objs.size f cd :: outer) := I.stack
  have free := I.stkFree
  have locF : ∀ b, b ∈ frs (envOfC qual scope s₀.heap.objs.size f cd :: outer) → b = s₀.heap.objs.size ∨ b ∈ frs outer := fun b hb => List.mem_cons.mp (I.stkSub b hb)
  have a0 : s₀.heap.get? a = none := by
    cases q : s₀.heap.get? a with
    | none => rfl
    | some o =>
      have := I.base.free a o q h0 (by simp [cxOf])
      rw [ha] at this
      cases this
  have nea : ∀ b o, s₀.heap.get? b = some o → b ≠ a := fun b o q z => by rw [z, a0] at q; cases q
  have inB : ∀ b o, s.heap.get? b = some o → b ≠ a → b ∉ frs (envOfC qual scope s₀.heap.objs.size f cd :: outer) → (PySem.W.hideAll s.heap (a :: frs (envOfC qual scope s₀.heap.objs.size f cd :: outer))).get? b = some o := fun b o q h1 h2 => PySem.W.hideAll_get _ q fun z => (List.mem_cons.mp z).elim h1 h2
  obtain ⟨t0, e0⟩ := I.raw ha
  have noB : (PySem.W.hideAll s.heap (a :: frs (envOfC qual scope s₀.heap.objs.size f cd :: outer))).get? a = none := PySem.W.hideAll_none _ (List.mem_cons_self ..)
  show wpAny (model P w) (A.deeper (envOfC qual scope s₀.heap.objs.size f cd)) (leaving (envOfC qual scope s₀.heap.objs.size f cd) (.ref a)) (fun _ s'' => CXd P w outer H₀ s₀ E (.ref a) s'') (fun e' s'' => CXd P w outer H₀ s₀ E e' s'') s
  refine leaveD0 (base := PySem.W.hideAll s.heap (a :: frs (envOfC qual scope s₀.heap.objs.size f cd :: outer))) (L := s₀.heap.objs.size) I.ok.frames
    (PySem.W.funFrames_hide stk fun env he b hb => List.mem_cons_of_mem _ (List.mem_filterMap.mpr ⟨env, he, hb⟩)) rfl e0 (fun b o q => PySem.W.of_hideAll _ q) noB rfl rfl fun h'' fl sm => ?_
  have keepB : ∀ b o, s.heap.get? b = some o → b ≠ a → b ∉ frs (envOfC qual scope s₀.heap.objs.size f cd :: outer) → h''.get? b = some o := fun b o q n1 n2 => fl.stay b o (inB b o q n1 n2)
  have ne0 : ∀ b o, s₀.heap.get? b = some o → b ≠ s₀.heap.objs.size := fun b o q => Nat.ne_of_lt (Heap.lt_size q)
  have slotB : ∀ b o, s.heap.get? b = some o → b ∈ frs (envOfC qual scope s₀.heap.objs.size f cd :: outer) → ∃ sl, h''.get? b = some { o with slots := sl } := fun b o q hm => by
    obtain ⟨_, o', q', hd⟩ := stk.mem hm
    rw [q] at q'
    cases q'
    exact sm b o q hd
  have trk : ∀ b u, H b = some u → b ∉ frs (envOfC qual scope s₀.heap.objs.size f cd :: outer) := fun b u q hm => by
    have := free b hm
    rw [q] at this
    cases this
  have dl : ∀ b u, H b = some u → b ≠ a → del H a b = some u := fun b u q n => (del_ne n).trans q
  refine ⟨a, C, dd, del H a, rfl, hE, I.os, I.bare, ⟨fun b o q n hb _ => ?_, fun b o q n hb _ => ?_, fun b o q n hb => ?_, fun b o q _ => ?_, fun b xs q => ?_, fun b o u q => ?_, fun b qs q => ?_⟩, fun b u q => ?_, del_same, a0, ⟨⟨_, fl, fun b o hb q z => ?_⟩⟩⟩
  · exact keepB b o (I.base.keep b o q n hb (by simp [cxOf])) (nea b o q) fun z => (locF b z).elim (ne0 b o q) hb
  · obtain ⟨sl, q1⟩ := I.base.slot b o q n hb (by simp [cxOf])
    by_cases hm : b ∈ frs (envOfC qual scope s₀.heap.objs.size f cd :: outer)
    · obtain ⟨sl', q2⟩ := slotB b _ q1 hm
      exact ⟨sl', q2⟩
    · exact ⟨sl, keepB b _ q1 (nea b o q) hm⟩
  · rw [del_ne (nea b o q)]
    exact I.base.free b o q n (by exact hb)
  · obtain ⟨o', q1⟩ := I.base.there b o q (by simp [cxOf])
    by_cases hm : b ∈ frs (envOfC qual scope s₀.heap.objs.size f cd :: outer)
    · obtain ⟨sl', q2⟩ := slotB b _ q1 hm
      exact ⟨_, q2⟩
    · exact ⟨_, keepB b _ q1 (nea b o q) hm⟩
  · have z := I.base.tups b xs q
    exact dl _ _ z fun y => by rw [y, ha] at z; cases z
  · have z := I.base.frzs b o u q
    exact dl _ _ z fun y => by rw [y, ha] at z; cases z
  · obtain ⟨m, z⟩ := I.base.tbls b qs q
    exact ⟨m, dl _ _ z fun y => by rw [y, ha] at z; cases z⟩
  · have nb : b ≠ a := fun z => by rw [z, del_same] at q; cases q
    rw [del_ne nb] at q
    refine (I.hok b u q).stay (fun c v hc z => keepB c v z ?_ ?_) (fun c z => dl _ _ z fun y => by rw [y, ha] at z; cases z) fun c xs z => dl _ _ z fun y => by rw [y, ha] at z; cases z
    · rcases hc with rfl | hc
      · exact nb
      · exact fun y => by rw [y, ha] at hc; cases hc
    · rcases hc with rfl | hc
      · exact trk c u q
      · exact trk c _ hc
  · obtain ⟨o1, q1, nb, hm⟩ : ∃ o1, s.heap.get? b = some o1 ∧ b ≠ a ∧ b ∉ frs (envOfC qual scope s₀.heap.objs.size f cd :: outer) := by
      rcases z with ⟨o', z⟩ | z
      · obtain ⟨o1, q1⟩ := I.base.there b o' z (by simp [cxOf])
        exact ⟨o1, q1, nea b o' z, fun y => (locF b y).elim (ne0 b o' z) hb⟩
      · have nb : b ≠ a := fun y => z (by rw [y]; exact del_same)
        rw [del_ne nb] at z
        cases hz : H b with
        | none => exact absurd hz z
        | some u =>
          obtain ⟨o1, q1⟩ := some_of (I.hok b u hz)
          exact ⟨o1, q1, nb, trk b u hz⟩
    have y := keepB b o1 q1 nb hm
    rw [q] at y
    cases y
    exact inB b o q1 nb hm
theorem Fun.okD {x qual : Str} {st : Stmt} {f : Addr} {fd : FuncData} {N ps : List Str} {k : Nat} {sp : Sp} (F : Fun K x qual st f fd) (S : FnScope N ps (defScope st)) (len : ∀ vs H Q E, sp vs H Q E → vs.length = ps.length)
    (hbody : ∀ (cdv : Value) (A : Around) (outer : List Env) (s : Shared) (H : Hp) (vs : List V) (Q : VK) (E : XK), Room k (A.deeper (envOfC qual (defScope st) s.heap.objs.size f cdv)) → sp vs H Q E →
      ∃ t, PSs (cxOf (CXd P w) P w K mg base N qual (defScope st) f cdv A outer s H E) (defBody st) t ∧ t { nx := fun _ H' => Q .non H', rt := Q } (start N vs) H) : FnOk P w K mg base (CXd P w) (k + 1) f fd ps sp := by
  obtain ⟨oc, od, kV, doc, pm, an, cdv, ct, osl, rfl, lk, hcd⟩ := F.ex
  exact fn_of lk hcd S len fun A outer s H vs Q E hr hsp => hbody cdv A outer s H vs Q E hr hsp
end
end L2

/-! A CALL IN A TRY, the exception with its dict: try: f(..) / except Base as n: .. -/
namespace L2
open PySem PySem.Spec PyProof.Rows
/-- an exception that is held: tracked by what it is -/
def excHO (a C : Addr) (dd : Option Addr) : HO := .ext (ExcO a C dd)
/-- within an except suite -/
abbrev Cx.mark (X : Cx) (a : Addr) : Cx := { X with A := X.A.mark (some (.ref a)), calm := false, xe := fun _ _ => False }
section
variable {X : Cx} {pins : List (Addr × Obj)} {σ : St} {H : Hp} {s : Shared}
theorem Inv.mark (I : Inv X pins σ H s) (a : Addr) : Inv (X.mark a) pins σ H s :=
  ⟨⟨I.ok.mod, I.ok.kind, I.ok.glob, I.ok.blt, I.ok.above, I.ok.inj, I.ok.has, I.ok.cab, fun z => Bool.noConfusion z, I.ok.frames, I.ok.stk, I.ok.exf, I.ok.bs, I.ok.bsz, I.ok.noex, I.ok.exfs, I.ok.funs, I.ok.frf⟩,
    I.os, I.bare, I.base, I.loc, I.cell, I.free, I.freeC, I.pin, I.hok, I.len⟩
theorem Inv.unmark {a : Addr} (I : Inv (X.mark a) pins σ H s) (ok : X.Ok) : Inv X pins σ H s := ⟨ok, I.os, I.bare, I.base, I.loc, I.cell, I.free, I.freeC, I.pin, I.hok, I.len⟩
theorem xmatch {M : Model} {A : Around} {E : Value → Shared → Prop} {K : PySem.W.Frag} {h : Heap} {g : Array GenState} {d : Drawn} {t : Nat} {os : OsState} {e C CK : Addr} {o : Obj} {bm bmK : List Value} {Q : Bool → Shared → Prop} (Z : ExcW K C bm) (ZK : ExcW K CK bmK) (X : K.In h)
    (hx : h.get? e = some o) (hc : o.cls = .ref C) (hb : (Value.ref C :: bm).contains (.ref CK) = true) (hq : Q true ⟨h, g, d, t, os⟩) : wpAny M A (excMatches (.ref e) (.ref CK)) Q E ⟨h, g, d, t, os⟩ := by
  obtain ⟨nm, qn, N, bs, hd, sn, sub, ab, col, dd, k0, k1, k2, k3, k5, hC, T⟩ := Z.ob _ X
  obtain ⟨nm', qn', N', bs', hd', sn', sub', ab', col', dd', k0', k1', k2', k3', k5', hC', T'⟩ := ZK.ob _ X
  have hcB : (Value.ref CK :: bmK).contains (.type "BaseException") = true := by rw [List.contains_cons, T'.hasType (b := true) (by rfl), Bool.or_true]
  have f := tc_notTuple
  unfold excMatches
  repeat (first | (with_reducible refine wpAny_loadPart_at hx ?_; rw [hc]) | with_reducible refine wpAny_loadPart_at hC' ?_ | (with_reducible refine wpAny_isSubtype_exc hC' ?_; rw [hcB]) | (with_reducible refine wpAny_isSubtype_exc hC ?_; rw [hb]) | wp_step)
  exact hq
/-- behind a call that raised: the frames' slots and the exception alone have changed since -/
theorem Inv.landed {H' : Hp} {B h5 : Heap} {s' : Shared} (I : Inv X pins σ H s) (ho : s'.os = s.os) (hg : AllBare s'.gens) (u : Un (frs X.stack) [] H H' s.heap s'.heap) (hok : HOk X.prog X.w H' s'.heap)
    (hB : ∀ b o, b ∉ frs X.stack → s'.heap.get? b = some o → ((∃ o', s.heap.get? b = some o') ∨ H' b ≠ none) → B.get? b = some o) (hF : s'.heap.FunFrames B X.stack) (st : B.StaysIn h5) (sm : s'.heap.UpToSlots h5) : Inv X pins σ H' { s' with heap := h5 } := by
  have slotB : ∀ b o, s'.heap.get? b = some o → b ∈ frs X.stack → ∃ sl, h5.get? b = some { o with slots := sl } := fun b o q hm => by
    obtain ⟨_, o', q', hd⟩ := hF.mem hm
    rw [q] at q'
    cases q'
    exact sm b o q hd
  have untr : ∀ b ∈ frs X.stack, H' b = none := fun b hm => by
    obtain ⟨_, o, q, _⟩ := I.stack.mem hm
    exact u.free b o q (I.stkFree b hm) (by simp)
  have trk : ∀ b v, H' b = some v → b ∉ frs X.stack := fun b v q hm => by
    rw [untr b hm] at q
    cases q
  refine I.call' (s' := { s' with heap := h5 }) (ch := []) ho ⟨fun b o q n hb hx => ?_, fun b o q n hb hx => ?_, u.free, fun b o q hx => ?_, u.tups, u.frzs, u.tbls⟩ (fun b v q => ?_) hg (fun b hb => by cases hb)
  · exact st b o (hB b o hb (u.keep b o q n hb hx) (.inl ⟨o, q⟩))
  · obtain ⟨sl, q1⟩ := u.slot b o q n hb hx
    obtain ⟨sl', q2⟩ := slotB b _ q1 hb
    exact ⟨sl', q2⟩
  · obtain ⟨o', q1⟩ := u.there b o q hx
    by_cases hm : b ∈ frs X.stack
    · obtain ⟨sl', q2⟩ := slotB b _ q1 hm
      exact ⟨_, q2⟩
    · exact ⟨_, st b o' (hB b o' hm q1 (.inl ⟨o, q⟩))⟩
  · refine (hok b v q).stay (fun c y hc z => ?_) (fun _ z => z) fun _ _ z => z
    have hc' : H' c ≠ none := by
      rcases hc with rfl | hc
      · rw [q]; exact fun y => nomatch y
      · rw [hc]; exact fun y => nomatch y
    have hm : c ∉ frs X.stack := fun y => hc' (untr c y)
    exact st c y (hB c y hm z (.inr hc'))
/-- an exception that is there is tracked from now on -/
theorem Inv.track (I : Inv X pins σ H s) {a C : Addr} {dd : Option Addr} (hn : H a = none) (h0 : X.s₀.heap.get? a = none) (he : ExcO a C dd s.heap) (hL : a ≠ X.env.locals) (hc : ∀ x c, X.env.cells.lookup x = some c → c ≠ a) (hp : ∀ p ∈ X.pn ++ pins, p.1 ≠ a) : Inv X pins σ (upd H a (excHO a C dd)) s := by
  have sm : ∀ b u, H b = some u → upd H a (excHO a C dd) b = some u := fun b u q => by rw [upd_ne (ne_of_none q hn)]; exact q
  refine ⟨I.ok, I.os, I.bare, ⟨I.base.keep, I.base.slot, fun b o q n hx => ?_, I.base.there, fun b xs q => sm _ _ (I.base.tups b xs q), fun b o u q => sm _ _ (I.base.frzs b o u q), fun b ps q => ?_⟩, I.loc, I.cell, ?_, fun x c e => ?_, fun p hp' => ?_, fun b u q => ?_, I.len⟩
  · have : b ≠ a := fun z => by rw [z, h0] at q; cases q
    rw [upd_ne this]
    exact I.base.free b o q n hx
  · obtain ⟨m, e⟩ := I.base.tbls b ps q
    exact ⟨m, sm _ _ e⟩
  · rw [upd_ne (Ne.symm hL)]
    exact I.free
  · rw [upd_ne (hc x c e)]
    exact I.freeC x c e
  · obtain ⟨e, n, ne, nf, d⟩ := I.pin p hp'
    exact ⟨e, by rw [upd_ne (hp p hp')]; exact n, ne, nf, d⟩
  · by_cases hb : b = a
    · subst hb
      rw [upd_same] at q
      cases q
      obtain ⟨o, vs, h1, h2, h3, h4⟩ := id he
      exact ⟨he, ⟨o, h1⟩, fun g1 g2 ⟨o', vs', e1, e2, e3, e4⟩ k => ⟨o', vs', k o' e1, e2, e3, e4⟩⟩
    · rw [upd_ne hb] at q
      exact (I.hok b u q).stay (fun _ _ _ z => z) (fun c z => sm _ _ z) fun c xs z => sm _ _ z
def DoneAs (D : Ends) (i : Nat) : Ends := ⟨fun σ H => D.nx (σ.set i none) H, D.rt, fun σ H => D.bk (σ.set i none) H, fun σ H => D.ct (σ.set i none) H⟩
theorem Inv.drop {i : Nat} {n : Str} {h' : Heap} {m : Str → Option Value} {v : Option Value} {t : Nat} (I : Inv X pins σ H s) (hN : X.N.Nodup) (hi : X.N[i]? = some n) (hm : s.heap.Ns X.env.locals m) (hl : ∀ (i : Nat) (x : Str) (v : V), X.N[i]? = some x → σ[i]? = some (some v) → Vis X.env.scope x → ∃ u, RelV v u ∧ Look X.env s.heap m x u)
    (hn : h'.Ns X.env.locals fun x => if x = n then v else m x) (hs : Heap.SameBut X.env.locals s.heap h') : Inv X pins (σ.set i none) H { s with heap := h', toks := t } := by
  have keep : ∀ b o, b ≠ X.env.locals → s.heap.get? b = some o → h'.get? b = some o := fun b o hb e => (hs.2 b hb).trans e
  have neL : ∀ b o, X.s₀.heap.get? b = some o → b ≠ X.env.locals := fun b o e => Nat.ne_of_lt (Nat.lt_of_lt_of_le (Heap.lt_size e) I.ok.above)
  refine ⟨I.ok, I.os, I.bare, ⟨fun b o e n' hb hx => keep b o (neL b o e) (I.base.keep b o e n' hb hx), fun b o e n' hb hx => ?_, I.base.free, fun b o e hx => ?_, I.base.tups, I.base.frzs, I.base.tbls⟩, ⟨_, hn, fun j y w' e1 e2 e3 => ?_⟩, fun y c e => ?_, I.free, I.freeC, fun p hp => ?_, fun b u e => ?_, by rw [List.length_set]; exact I.len⟩
  · obtain ⟨sl, q⟩ := I.base.slot b o e n' hb hx
    exact ⟨sl, keep b _ (neL b o e) q⟩
  · obtain ⟨o', q⟩ := I.base.there b o e hx
    exact ⟨o', keep b _ (neL b o e) q⟩
  · by_cases hj : j = i
    · subst hj
      by_cases hlt : j < σ.length
      · rw [List.getElem?_set_self hlt] at e2
        cases e2
      · rw [List.getElem?_eq_none (by rw [List.length_set]; omega)] at e2
        cases e2
    · rw [List.getElem?_set_ne (Ne.symm hj)] at e2
      obtain ⟨u, r, q⟩ := hl j y w' e1 e2 e3
      refine ⟨u, r, ?_⟩
      have ny : y ≠ n := fun e => hj (nodup_ix hN e1 (e ▸ hi))
      rcases q with ⟨k, q⟩ | ⟨k, c, q, z⟩
      · exact .inl ⟨k, by simp [ny, q]⟩
      · exact .inr ⟨k, c, q, z.sameBut hs (I.cne y c q)⟩
  · obtain ⟨w', z⟩ := I.cell y c e
    exact ⟨w', z.sameBut hs (I.cne y c e)⟩
  · obtain ⟨e, n', ne, nf, d⟩ := I.pin p hp
    exact ⟨keep _ _ ne e, n', ne, nf, d⟩
  · refine (I.hok b u e).stay (fun c v' hc q => keep c v' (fun z => ?_) q) (fun _ q => q) fun _ _ q => q
    have := I.free
    rcases hc with rfl | hc
    · rw [z, this] at e; cases e
    · rw [z, this] at hc; cases hc
theorem catch_ok {EK : XK} {e : Value} {s' : Shared} {kn n : Str} {kp hpos : Pos} {CK : Addr} {bmK : List Value} {i : Nat} {b₀ : Stmt} {suite : List Stmt} {tsu : TS} {D : Ends} (hex : X.ex = []) (hst : X.stack = X.env :: X.outer) (hfr : X.env.frame = some X.env.locals) (ZK : ExcW X.K CK bmK) (hgk : Gl X kn) (hmk : X.mg kn = some (.ref CK))
    (hN : X.N.Nodup) (hi : X.N[i]? = some n) (hn : X.env.scope.names.lookup n = some .local) (hs : ∀ a, PSs (X.mark a) (b₀ :: suite) tsu) (hd : (kn == ("__debug__" : Str)) = false)
    (hE : ∀ cv dd H2, EK cv dd H2 → ∃ C bm, cv = .ref C ∧ ExcW X.K C bm ∧ (Value.ref C :: bm).contains (.ref CK) = true ∧ ∀ a, H2 a = none → tsu (DoneAs D i) (σ.set i (some (.ref a))) (upd H2 a (excHO a C dd)))
    (I : Inv X pins σ H s) (hq : CXd X.prog X.w X.stack H s EK e s') :
    wpAny (model X.prog X.w) X.A (noteFrame e X.env) (fun _ s₂ => wpAny (model X.prog X.w) X.A (setFlight e none) (fun _ s₃ => wpAny (model X.prog X.w) X.A (handleBy e X.env [.ExceptHandler (some (.Name kn kp)) (some n) (b₀ :: suite) hpos]) (SP X pins D) X.xe s₃) X.xe s₂) X.xe s' := by
  obtain ⟨a, C, dd, H', rfl, qE, ho, hg, u, hok, ha, ha0, ⟨B, fl, hB⟩⟩ := hq
  obtain ⟨C', bm, eC, Z, hb, rd⟩ := hE _ _ _ qE
  cases eC
  have hA : X.A.frames = some (X.env :: X.outer) := by rw [← hst]; exact I.ok.frames
  have fl' : FlyD B (X.env :: X.outer) a (.ref C) dd .none s'.heap := by rw [← hst]; exact fl
  refine noteD hA hfr fl' fun h4 fl4 sm4 => ?_
  refine flightD fl4 fun h5 fl5 sm5 => ?_
  have hF : s'.heap.FunFrames B X.stack := fl.frm
  have I5 : Inv X pins σ H' { s' with heap := h5 } := I.landed ho hg u hok hB hF fl5.stay (sm4.trans sm5)
  obtain ⟨oe, _, _, _, _, ⟨he1, he2, _, _⟩, _⟩ := fl5.tr.ex
  refine wpAny_handleBy_cons (codeAny_handlers_test (ld_glob (X := X.mark a) (I5.mark a) hgk hmk ?_ hd)) (by intro q; cases q)
  refine xmatch Z ZK I5.kIn he1 he2 hb ?_
  refine codeAny_handlers_suite_as ?_
  refine flightD fl5 fun h6 fl6 sm6 => ?_
  have I6 : Inv X pins σ H' { s' with heap := h6 } := I.landed ho hg u hok hB hF fl6.stay ((sm4.trans sm5).trans sm6)
  obtain ⟨o6, v6, _, _, _, ⟨g1, g2, g3, g4⟩, _⟩ := fl6.tr.ex
  have z0 : X.s₀.heap.get? a = none := by
    cases q : X.s₀.heap.get? a with
    | none => rfl
    | some o =>
      obtain ⟨o', q'⟩ := I.base.there a o q (by rw [hex]; simp)
      rw [ha0] at q'
      cases q'
  have zL : a ≠ X.env.locals := fun z => by
    obtain ⟨m, ⟨o, _, _, q, _⟩, _⟩ := I.loc
    rw [← z, ha0] at q
    cases q
  have zC : ∀ x c, X.env.cells.lookup x = some c → c ≠ a := fun x c q z => by
    obtain ⟨v, o, q', _⟩ := I.cell x c q
    rw [z, ha0] at q'
    cases q'
  have zP : ∀ p ∈ X.pn ++ pins, p.1 ≠ a := fun p hp z => by
    have q' := (I.pin p hp).1
    rw [z, ha0] at q'
    cases q'
  have J6 := (I6.track ha z0 (C := C) (dd := dd) ⟨o6, v6, g1, g2, g3, g4⟩ zL zC zP).mark a
  refine store_ok (X := X.mark a) J6 hN hi (.inl hn) (v := .ref a) (u := .ref a) rfl (fun s7 J7 => ?_) (.inr hn)
  refine wpAny_mono (hs a pins s7 _ _ (DoneAs D i) J7 (rd a ha)) (fun f s8 q8 => ?_) fun _ _ z => z.elim
  have fin : ∀ {σ8 : St} {H8 : Hp}, Inv (X.mark a) pins σ8 H8 s8 → (∀ s9, Inv X pins (σ8.set i none) H8 s9 → SP X pins D f s9) → wpAny (model X.prog X.w) X.A (do bindName X.env n .none; unbindBehindTheSuite X.env n hpos) (fun _ s9 => SP X pins D f s9) X.xe s8 := fun {σ8 H8} J8 k => by
    have I8 : Inv X pins σ8 H8 s8 := J8.unmark I.ok
    obtain ⟨m, hm, hl⟩ := id I8.loc
    exact wpAny_nameGoes_keeps hn hm (by rw [I.ok.kind]; rfl) fun h9 v hn9 hs9 => k _ (I8.drop hN hi hm hl hn9 hs9)
  cases f with
  | next => obtain ⟨σ8, H8, J8, q⟩ := q8; exact fin J8 fun s9 I9 => ⟨_, _, I9, q⟩
  | brk => obtain ⟨σ8, H8, J8, q⟩ := q8; exact fin J8 fun s9 I9 => ⟨_, _, I9, q⟩
  | cont => obtain ⟨σ8, H8, J8, q⟩ := q8; exact fin J8 fun s9 I9 => ⟨_, _, I9, q⟩
  | ret v => obtain ⟨x8, σ8, H8, J8, r8, q⟩ := q8; exact fin J8 fun s9 I9 => ⟨x8, _, _, I9, r8, q⟩
/-- the reading -/
def tTry (K : PySem.W.Frag) (i : Nat) (CK : Addr) (ta : TA) (sp : Sp) (tsu : TS) : TS := fun D σ H => ta σ H fun vs H1 => sp vs H1 (fun _ H2 => D.nx σ H2) (fun cv dd H2 => ∃ C bm, cv = .ref C ∧ ExcW K C bm ∧ (Value.ref C :: bm).contains (.ref CK) = true ∧
  ∀ a, H2 a = none → tsu (DoneAs D i) (σ.set i (some (.ref a))) (upd H2 a (excHO a C dd)))
theorem ps_try {k : Nat} {f : Addr} {fd : FuncData} {ps : List Str} {sp : Sp} {st : Stmt} {fx kn n : Str} {p cpos epos kp hpos pos : Pos} {e : Expr} {es : List Expr} {ta : TA} {CK : Addr} {bmK : List Value} {i : Nat} {b₀ : Stmt} {suite : List Stmt} {tsu : TS}
    (hex : X.ex = []) (hst : X.stack = X.env :: X.outer) (hfr : X.env.frame = some X.env.locals) (D : Dn X.K X.mg fx st ps f fd) (G : FnOk X.prog X.w X.K X.mg X.base (CXd X.prog X.w) k f fd ps sp) (hr : Room k X.A) (hg : Gl X fx) (ha : PA X.nox (e :: es) ta)
    (ZK : ExcW X.K CK bmK) (hgk : Gl X kn) (hmk : X.mg kn = some (.ref CK)) (hN : X.N.Nodup) (hi : X.N[i]? = some n) (hn : X.env.scope.names.lookup n = some .local) (hs : ∀ a, PSs (X.mark a) (b₀ :: suite) tsu)
    (hd : (kn == ("__debug__" : Str)) = false := by decide) (hdf : (fx == ("__debug__" : Str)) = false := by decide) (hst' : starEach (e :: es) X.env = (false, eval e X.env) :: starEach es X.env := by rfl) (hpl : (backTo cpos (starEach es X.env)).any (·.1) = false := by rfl)
    (hsw : swapsWith (.Call (.Name fx p) (e :: es) [] cpos) none epos.line X.env = pure false := by rfl) :
    PS X (.Try [.Expr (.Call (.Name fx p) (e :: es) [] cpos) epos] [.ExceptHandler (some (.Name kn kp)) (some n) (b₀ :: suite) hpos] [] [] pos) (tTry X.K i CK ta sp tsu) := by
  intro pins s σ H D' I h
  refine wpAny_Try_except ?_
  refine wpAny_execs_cons (wpAny_Expr_any ?_ I.quiet hsw)
  refine wpAny_Call_Name_kw (ld_glob I hg D.gl ?_ hdf)
  refine PySem.W.callWith_K (h₀ := X.base) I.ok.mod.kin D.fn.kp (wpAny_mono (ha cpos pins s σ H _ (I.wish _) h) (fun us s1 ⟨vs, H1, I1', r, q⟩ => ?_) fun _ _ z => z.elim) hst' hpl
  have I1 : Inv X pins σ H1 s1 := I1'.unwish
  refine ⟨I1.kIn, ?_⟩
  have hl : us.length = ps.length := by rw [← r.length]; exact G.len _ _ _ _ q
  have hb := D.bd s1 us I1.kIn (by rw [List.append_nil]; exact hl)
  rw [List.append_nil] at hb
  refine wpAny_call (codeAny_mono (G.run X.A X.stack s1 H1 ⟨us, []⟩ us vs _ _ hr I1.env0 hb r q) fun rr s' hq => ?_)
  cases rr with
  | error ev =>
    have hq' : CXd X.prog X.w X.stack H1 s1 (fun cv dd H2 => ∃ C bm, cv = .ref C ∧ ExcW X.K C bm ∧ (Value.ref C :: bm).contains (.ref CK) = true ∧ ∀ a, H2 a = none → tsu (DoneAs D' i) (σ.set i (some (.ref a))) (upd H2 a (excHO a C dd))) ev s' := hq
    exact catch_ok hex hst hfr ZK hgk hmk hN hi hn hs hd (fun cv dd H2 z => z) I1 hq'
  | ok fl =>
    cases fl with
    | ret uv =>
      obtain ⟨v, H2, I2, _, q2⟩ := I1.after hq
      exact wpAny_execs_nil (wpAny_execs_nil ⟨σ, H2, I2, q2⟩)
    | next => exact False.elim hq
    | brk => exact False.elim hq
    | cont => exact False.elim hq
end
end L2

/-! an attribute of an exception is read; isinstance of an exception -/
namespace L2
open PySem PySem.Spec PyProof.Rows
section
variable {prog : Program} {w : World} {A : Around} {E : Value → Shared → Prop} {h : Heap} {g : Array GenState} {d : Drawn} {t : Nat} {os : OsState} {a C CK fI dx : Addr} {vs : Array Value} {sl : Array (Option Value)} {K : PySem.W.Frag} {m : Str → Option Value} {name : Str} {v : Value}
theorem xget_entry {tk : Tok} {Q : Fin → Shared → Prop} (Z : ExcI K C CK fI) (X : K.In h) (hx : h.get? a = some ⟨.ref C, some dx, .fields vs, sl⟩) (hn : h.Ns dx m) (hm : m name = some v) (hp : PySem.W.findIn K (.ref C) name = some none) (hq : Q (.done (.ret v)) ⟨h, g, d, t, os⟩) :
    wpAny (model prog w) A (Builtin.«object.__getattribute__» ⟨[.ref a, .str name tk], []⟩) Q E ⟨h, g, d, t, os⟩ := by
  obtain ⟨cd, hc, hmr, hd⟩ := Z.cd
  have J : PySem.W.Looks (model prog w) h (typeOf (.ref a)) (.ref C) := (PySem.W.Looks.ld hx).andThen .now
  refine wpAny_bind (wpAny_pure (wpAny_bind (wpAny_pure (wpAny_bind (J.at ?_)))))
  refine wpAny_bind (wpAny_bind ((PySem.W.looks_findIn X hp).at (wpAny_bind (wpAny_pure (wpAny_bind (wpAny_pure ?_))))))
  show wpAny _ _ (Builtin.ObjectAttr.ownThenClass (.ref a) name none none) _ _ _
  unfold Builtin.ObjectAttr.ownThenClass Builtin.ObjectAttr.inOwnDict Builtin.ObjectAttr.ownDict instanceDict
  refine wpAny_bind (wpAny_bind (wpAny_bind (wpAny_loadPart hx ?_)))
  refine wpAny_bind (wpAny_loadPart hx (wpAny_bind ((PySem.W.looks_clsIn X hc).at ?_)))
  rw [hd]
  refine wpAny_pure (a := some dx) (wpAny_nsGet hn ?_)
  rw [hm]
  exact wpAny_bind (wpAny_rule (wpAny_pure (wpAny_pure hq)))
theorem xget_attr {b : Bool} {Q : Value → Shared → Prop} (Z : ExcI K C CK fI) (X : K.In h) (hx : h.get? a = some ⟨.ref C, some dx, .fields vs, sl⟩) (hn : h.Ns dx m) (hm : m name = some v) (hp : PySem.W.findIn K (.ref C) name = some none) (hh : PySem.W.handedIn v = true) (hq : Q v ⟨h, g, d, t + 1, os⟩) :
    wpAny (model prog w) A (getAttr (.ref a) name b) Q E ⟨h, g, d, t, os⟩ := by
  have J : ∀ M : Model, PySem.W.Looks M h (typeOf (.ref a)) (.ref C) := fun M => (PySem.W.Looks.ld hx).andThen .now
  have FB := F.attrBase_ValueError
  have ng : (Value.builtin "BaseException.__getattribute__" == Value.builtin "object.__getattribute__") = false := by decide +kernel
  refine wpAny_bind (wpAny_mkText (wpAny_holding (wpAny_bind ((J _).at (wpAny_bind ((PySem.W.looks_findIn X Z.ga).at ?_))))))
  dsimp only
  rw [show (onTheHeap (Value.ref C) && Value.builtin "BaseException.__getattribute__" == Value.builtin "object.__getattribute__") = false from by rw [ng]; rfl, if_neg (by decide)]
  refine wpAny_bind (PySem.W.Looks.at (PySem.W.looks_hook X (show (if onTheHeap (Value.ref C) then PySem.W.findIn K (.ref C) "__getattr__" else some none) = some none from Z.gt)) (wpAny_bind (wpAny_attempt (wpAny_holding ?_))))
  unfold callGetattribute
  rw [show (b && onTheHeap (Value.builtin "BaseException.__getattribute__")) = false from Bool.and_false _, if_neg (by decide)]
  unfold boundAndCalled
  rw [FB.ga.bind]
  refine wpAny_bind (wpAny_pure ?_)
  refine wpAny_call (codeAny_call_builtin FB.ga.plain F.entry_bexc_ga (xcls_check Z.w X hx rfl (xget_entry Z X hx hn hm hp ?_)))
  show wpAny _ _ (handedOut v) _ _ _
  rw [PySem.W.handedOut_of hh]
  exact wpAny_pure hq
end
/-- what stands in an exception's dict is handed on as it is -/
theorem handed_rel {x : V} {u : Value} (r : RelV x u) (hx : ∀ i, x ≠ .ty i) : PySem.W.handedIn u = true := by
  cases x with
  | non => cases r; rfl
  | bl b => cases r; rfl
  | int i => obtain ⟨t, rfl⟩ := r; rfl
  | str i => obtain ⟨t, rfl⟩ := r; rfl
  | byt i => obtain ⟨t, rfl⟩ := r; rfl
  | flt i => obtain ⟨t, rfl⟩ := r; rfl
  | ref p => cases r; rfl
  | ty i => exact absurd rfl (hx i)
section
variable {X : Cx} {pins : List (Addr × Obj)} {σ : St} {H : Hp} {s : Shared} {a C CK fI dx : Addr} {dd : Option Addr}
theorem Inv.exc (I : Inv X pins σ H s) (h : H a = some (excHO a C dd)) : ExcO a C dd s.heap := (I.hok a _ h).1
def tGetX (C : Addr) (name : Str) (te : TE) : TE := fun σ H Q => te σ H fun x H1 => ∃ a dx fs v, x = .ref a ∧ H1 a = some (excHO a C (some dx)) ∧ H1 dx = some (.xd fs) ∧ fs.lookup name = some v ∧ (∀ i, v ≠ .ty i) ∧ Q v H1
theorem pe_getX {e : Expr} {name : Str} {pos : Pos} {te : TE} (Z : ExcI X.K C CK fI) (hp : PySem.W.findIn X.K (.ref C) name = some none) (he : PE X e te) (hb : attributeBase e name X.env (eval e X.env) = eval e X.env := by rfl) : PE X (.Attribute e name pos) (tGetX C name te) := by
  intro pins s σ H Q I h
  refine attr_of hb (thn (he pins s σ H _ I h) fun u s1 ⟨x, H1, I1, rx, a, dx, fs, v, ex, ea, ed, hl, hv, q⟩ => ?_)
  subst ex
  cases (show u = Value.ref a from rx)
  obtain ⟨o, vs, e1, e2, e3, e4⟩ := I1.exc ea
  obtain ⟨mA, n1, r1⟩ := (show ObjOk X.prog X.w H1 s1.heap dx (.xd fs) from I1.hok dx _ ed)
  have z := r1 name
  rw [hl] at z
  cases hm : mA name with
  | none => rw [hm] at z; exact False.elim z
  | some uu =>
    rw [hm] at z
    have I2 := I1.tok (s1.toks + 1)
    obtain ⟨hp', g, d, t, os⟩ := s1
    obtain ⟨oc, od, oda, osl⟩ := o
    dsimp only at e2 e3 e4
    subst e2 e3 e4
    exact xget_attr Z I1.kIn e1 n1.ns hm hp (handed_rel z hv) ⟨v, H1, I2, z, q⟩
theorem kitx_exc {K : PySem.W.Frag} {bm : List Value} (Z : ExcW K C bm) : PySem.W.KitX K (.ref a) (.ref C) (ExcO a C dd) where
  ty := fun M h _ p => by
    obtain ⟨o, vs, h1, h2, _⟩ := p
    exact h2 ▸ (PySem.W.Looks.ld h1).andThen .now
  it := fun M h X p => by
    obtain ⟨_, _, _, _, _, _, _, _, _, _, _, _, _, _, _, hC, _⟩ := Z.ob _ X
    intro A' Q' E' s' k q
    unfold isType loadHead
    exact wpAny_bind (wpAny_loadPart (k _ _ hC) (wpAny_pure q))
  ne := fun h tp dd its n sl X htp => by
    obtain ⟨_, _, _, _, _, _, _, _, _, _, _, _, _, _, _, hC, _⟩ := Z.ob _ X
    refine Bool.eq_false_iff.mpr fun q => ?_
    have e : C = tp := Value.ref.inj (beq_iff_eq.mp q)
    subst e
    have z := Option.some.inj (hC.symm.trans htp)
    have z1 := congrArg Obj.cls z
    have z2 : "type" = "tuple" := Value.type.inj z1
    exact absurd z2 (by decide)
  ca := fun {prog w A E Q s} X p k => by
    obtain ⟨o, vs, h1, h2, _⟩ := p
    obtain ⟨h, g, d, t, os⟩ := s
    exact xcls_attr Z X h1 h2 k
/-- isinstance(e, c): c an own class or a built-in one -/
theorem call_isinstX {bm : List Value} (Z : ExcW X.K C bm) : CallR X (.builtin "isinstance") (fun xs H Q => ∃ a dd c cv b, xs = [.ref a, c] ∧ H a = some (excHO a C dd) ∧ RelV c cv ∧ PySem.W.kitOne X.K (.ref C) cv = some b ∧ Q (.bl b) H) := by
  intro pins s σ H xs us Q I r h
  obtain ⟨a, dd, c, cv, b, rfl, ha, rc, e, q⟩ := h
  obtain ⟨u, w', rfl, ru, rw'⟩ := vals2 r
  cases (show u = Value.ref a from ru)
  have : w' = cv := by
    cases c with
    | ref p => exact (show w' = Value.ref p from rw').trans (show cv = Value.ref p from rc).symm
    | ty n => exact (show w' = Value.type n from rw').trans (show cv = Value.type n from rc).symm
    | non => exact (show w' = Value.none from rw').trans (show cv = Value.none from rc).symm
    | bl n => exact (show w' = Value.bool n from rw').trans (show cv = Value.bool n from rc).symm
    | int n => obtain ⟨t, rfl⟩ := rc; unfold PySem.W.kitOne PySem.W.kitCls at e; split at e <;> rename_i z <;> simp at z e
    | str n => obtain ⟨t, rfl⟩ := rc; unfold PySem.W.kitOne PySem.W.kitCls at e; split at e <;> rename_i z <;> simp at z e
    | byt n => obtain ⟨t, rfl⟩ := rc; unfold PySem.W.kitOne PySem.W.kitCls at e; split at e <;> rename_i z <;> simp at z e
    | flt n => obtain ⟨t, rfl⟩ := rc; unfold PySem.W.kitOne PySem.W.kitCls at e; split at e <;> rename_i z <;> simp at z e
  subst this
  exact PySem.W.kia_one (kitx_exc Z) I.kIn (I.exc ha) e (fun z => nomatch z) fun tk => ⟨.bl b, H, I.tok _, rfl, q⟩
end
end L2

/-! an exception that passes through a def; a try whose body chooses among calls; a comprehension over a tuple; long quotients -/
namespace L2
open PySem PySem.Spec PyProof.Rows
section
variable {P : Program} {w : World} {K : PySem.W.Frag} {mg : Str → Option Value} {base : Heap} {N : List Str} {qual : Str} {scope : Scope} {f : Addr} {cd : Value} {A : Around} {outer : List Env} {s₀ : Shared} {H₀ : Hp} {E : XK}
/-- an exception of a callee leaves this def, too -/
theorem pass_okD : Passes (CXd P w) (cxOf (CXd P w) P w K mg base N qual scope f cd A outer s₀ H₀ E) E := by
  intro pins σ H s e s' I hq
  obtain ⟨a, C, dd, H', rfl, qE, ho, hg, u, hok, ha, ha0, ⟨B, fl, hB⟩⟩ := hq
  have fl' : FlyD B (envOfC qual scope s₀.heap.objs.size f cd :: outer) a (.ref C) dd .none s'.heap := fl
  show wpAny (model P w) (A.deeper (envOfC qual scope s₀.heap.objs.size f cd)) (leaving (envOfC qual scope s₀.heap.objs.size f cd) (.ref a)) (fun _ s'' => CXd P w outer H₀ s₀ E (.ref a) s'') (fun e' s'' => CXd P w outer H₀ s₀ E e' s'') s'
  unfold leaving
  refine wpAny_bind (noteD (L := s₀.heap.objs.size) I.ok.frames rfl fl' fun h4 fl4 sm4 => ?_)
  refine flightD fl4 fun h5 fl5 sm5 => ?_
  have I5 := I.landed ho hg u hok hB fl.frm fl5.stay (sm4.trans sm5)
  have z0 : s₀.heap.get? a = none := by
    cases q : s₀.heap.get? a with
    | none => rfl
    | some o =>
      obtain ⟨o', q'⟩ := I.base.there a o q (by simp [cxOf])
      rw [ha0] at q'
      cases q'
  have locF : ∀ b, b ∈ frs (envOfC qual scope s₀.heap.objs.size f cd :: outer) → b = s₀.heap.objs.size ∨ b ∈ frs outer := fun b hb => List.mem_cons.mp (I.stkSub b hb)
  refine ⟨a, C, dd, H', rfl, qE, I5.os, I5.bare, I5.base, I5.hok, ha, z0, ⟨⟨B, fl5.pop, fun b o hb q z => ?_⟩⟩⟩
  obtain ⟨o1, q1, hm, hz⟩ : ∃ o1, s'.heap.get? b = some o1 ∧ b ∉ frs (envOfC qual scope s₀.heap.objs.size f cd :: outer) ∧ ((∃ o', s.heap.get? b = some o') ∨ H' b ≠ none) := by
    rcases z with ⟨o', z⟩ | z
    · obtain ⟨o2, q2⟩ := I.base.there b o' z (by simp [cxOf])
      obtain ⟨o1, q1⟩ := u.there b o2 q2 (by simp)
      exact ⟨o1, q1, fun y => (locF b y).elim (Nat.ne_of_lt (Heap.lt_size z)) hb, .inl ⟨o2, q2⟩⟩
    · cases hz : H' b with
      | none => exact absurd hz z
      | some v =>
        obtain ⟨o1, q1⟩ := some_of (hok b v hz)
        refine ⟨o1, q1, fun y => ?_, .inr (by simp)⟩
        obtain ⟨_, o, q', _⟩ := I.stack.mem y
        have := u.free b o q' (I.stkFree b y) (by simp)
        rw [hz] at this
        cases this
  have q2 := hB b o1 hm q1 hz
  have q3 := fl5.stay b o1 q2
  have q4 : h5.get? b = some o := q
  rw [q3] at q4
  cases q4
  exact q2
end
section
variable {X : Cx} {CX : CXT} {k : Nat} {f : Addr} {fd : FuncData} {x : Str} {st : Stmt} {ps : List Str} {sp : Sp} {e : Expr} {es : List Expr} {p pos : Pos} {t : TA} {E : XK}
theorem pe_fnX (D : Dn X.K X.mg x st ps f fd) (G : FnOk X.prog X.w X.K X.mg X.base CX k f fd ps sp) (hx : Passes CX X E) (hr : Room k X.A) (hg : Gl X x) (ha : PA X (e :: es) t) (hdb : (x == ("__debug__" : Str)) = false := by decide)
    (hs : starEach (e :: es) X.env = (false, eval e X.env) :: starEach es X.env := by rfl) (hpl : (backTo pos (starEach es X.env)).any (·.1) = false := by rfl) : PE X (.Call (.Name x p) (e :: es) [] pos) (tCall sp [] E t) :=
  pe_call G hr hg D.gl D.fn.kp D.bd .nil hx ha hdb hs hpl
end
section
variable {X : Cx}
/-! ### a try whose body chooses among calls -/
abbrev TY := Ends → XK → St → Hp → Prop
def PTry (X : Cx) (body : List Stmt) (tb : TY) : Prop :=
  ∀ (pins : List (Addr × Obj)) (s : Shared) (σ : St) (H : Hp) (D : Ends) (EK : XK), Inv X pins σ H s → tb D EK σ H →
    wpAny (model X.prog X.w) X.A (execs body X.env) (SP X pins D) (fun ev s' => ∃ H1 s1, Inv X pins σ H1 s1 ∧ CXd X.prog X.w X.stack H1 s1 EK ev s') s
def tyIf (tc : TT) (ta tb : TY) : TY := fun D EK σ H => tc σ H fun d H1 => if d = true then ta D EK σ H1 else tb D EK σ H1
theorem py_if {c : Expr} {a b : List Stmt} {tc : TT} {ta tb : TY} {pos : Pos} (hc : PT X.nox c tc) (ha : PTry X a ta) (hb : PTry X b tb) : PTry X [.If c a b pos] (tyIf tc ta tb) := by
  intro pins s σ H D EK I h
  refine wpAny_execs_cons (wpAny_If (wpAny_mono (hc pins s σ H _ (I.wish _) h) (fun d s1 ⟨H1, I1, q1⟩ => ?_) fun _ _ z => z.elim))
  cases d with
  | true =>
    refine thn (ha pins s1 σ H1 D EK I1.unwish q1) fun f s2 q => ?_
    cases f with
    | next => exact wpAny_execs_nil q
    | ret v => exact q
    | brk => exact q
    | cont => exact q
  | false =>
    refine thn (hb pins s1 σ H1 D EK I1.unwish q1) fun f s2 q => ?_
    cases f with
    | next => exact wpAny_execs_nil q
    | ret v => exact q
    | brk => exact q
    | cont => exact q
def tyCall (ta : TA) (sp : Sp) : TY := fun D EK σ H => ta σ H fun vs H1 => sp vs H1 (fun _ H2 => D.nx σ H2) EK
theorem py_call {k : Nat} {f : Addr} {fd : FuncData} {ps : List Str} {sp : Sp} {st : Stmt} {fx : Str} {p cpos epos : Pos} {e : Expr} {es : List Expr} {ta : TA}
    (D : Dn X.K X.mg fx st ps f fd) (G : FnOk X.prog X.w X.K X.mg X.base (CXd X.prog X.w) k f fd ps sp) (hr : Room k X.A) (hg : Gl X fx) (ha : PA X.nox (e :: es) ta)
    (hdf : (fx == ("__debug__" : Str)) = false := by decide) (hst' : starEach (e :: es) X.env = (false, eval e X.env) :: starEach es X.env := by rfl) (hpl : (backTo cpos (starEach es X.env)).any (·.1) = false := by rfl)
    (hsw : swapsWith (.Call (.Name fx p) (e :: es) [] cpos) none epos.line X.env = pure false := by rfl) :
    PTry X [.Expr (.Call (.Name fx p) (e :: es) [] cpos) epos] (tyCall ta sp) := by
  intro pins s σ H D' EK I h
  refine wpAny_execs_cons (wpAny_Expr_any ?_ I.quiet hsw)
  refine wpAny_Call_Name_kw (ld_glob I hg D.gl ?_ hdf)
  refine PySem.W.callWith_K (h₀ := X.base) I.ok.mod.kin D.fn.kp (wpAny_mono (ha cpos pins s σ H _ (I.wish _) h) (fun us s1 ⟨vs, H1, I1', r, q⟩ => ?_) fun _ _ z => z.elim) hst' hpl
  have I1 : Inv X pins σ H1 s1 := I1'.unwish
  refine ⟨I1.kIn, ?_⟩
  have hl : us.length = ps.length := by rw [← r.length]; exact G.len _ _ _ _ q
  have hb := D.bd s1 us I1.kIn (by rw [List.append_nil]; exact hl)
  rw [List.append_nil] at hb
  refine wpAny_call (codeAny_mono (G.run X.A X.stack s1 H1 ⟨us, []⟩ us vs _ _ hr I1.env0 hb r q) fun rr s' hq => ?_)
  cases rr with
  | error ev => exact ⟨H1, s1, I1, hq⟩
  | ok fl =>
    cases fl with
    | ret uv =>
      obtain ⟨v, H2, I2, _, q2⟩ := I1.after hq
      exact wpAny_execs_nil ⟨σ, H2, I2, q2⟩
    | next => exact False.elim hq
    | brk => exact False.elim hq
    | cont => exact False.elim hq
def tTryB (K : PySem.W.Frag) (i : Nat) (CK : Addr) (tb : TY) (tsu : TS) : TS := fun D σ H => tb D (fun cv dd H2 => ∃ C bm, cv = .ref C ∧ ExcW K C bm ∧ (Value.ref C :: bm).contains (.ref CK) = true ∧
  ∀ a, H2 a = none → tsu (DoneAs D i) (σ.set i (some (.ref a))) (upd H2 a (excHO a C dd))) σ H
theorem ps_tryB {body : List Stmt} {tb : TY} {kn n : Str} {kp hpos pos : Pos} {CK : Addr} {bmK : List Value} {i : Nat} {b₀ : Stmt} {suite : List Stmt} {tsu : TS}
    (hex : X.ex = []) (hst : X.stack = X.env :: X.outer) (hfr : X.env.frame = some X.env.locals) (hb : PTry X body tb)
    (ZK : ExcW X.K CK bmK) (hgk : Gl X kn) (hmk : X.mg kn = some (.ref CK)) (hN : X.N.Nodup) (hi : X.N[i]? = some n) (hn : X.env.scope.names.lookup n = some .local) (hs : ∀ a, PSs (X.mark a) (b₀ :: suite) tsu)
    (hd : (kn == ("__debug__" : Str)) = false := by decide) :
    PS X (.Try body [.ExceptHandler (some (.Name kn kp)) (some n) (b₀ :: suite) hpos] [] [] pos) (tTryB X.K i CK tb tsu) := by
  intro pins s σ H D' I h
  refine wpAny_Try_except ?_
  refine wpAny_mono (hb pins s σ H D' _ I h) (fun f s1 q => ?_) fun ev s1 ⟨H1, s2, I1, hq⟩ => ?_
  · cases f with
    | next => exact wpAny_execs_nil q
    | ret v => exact q
    | brk => exact q
    | cont => exact q
  · exact catch_ok hex hst hfr ZK hgk hmk hN hi hn hs hd (fun cv dd H2 z => z) I1 hq
end
/-! ### a comprehension over a tuple -/
theorem lc_tup {K : PySem.W.Frag} {a : Addr} {xs : List V} {te : TE} {Q : Hp → Prop} {σ : St} {H1 : Hp} {D : Addr} (Pv : Nat → List V → Hp → Prop) (h0 : Pv 0 [] (upd H1 D (.lst []))) (hl : ∀ i ys H', i ≤ xs.length → Pv i ys H' → SqT K H' a xs ∧ H' D = some (.lst ys))
    (hs : ∀ i x ys H', xs[i]? = some x → Pv i ys H' → te (σ ++ [some x]) H' fun v H3 => H3 D = some (.lst ys) ∧ ys.length < sizeLine ∧ Pv (i + 1) (ys ++ [v]) (upd H3 D (.lst (ys ++ [v])))) (hd : ∀ ys H', Pv xs.length ys H' → Q H')
    (mono : ∀ σ H Q Q', (∀ v H1, Q v H1 → Q' v H1) → te σ H Q → te σ H Q') :
    ∃ W : Nat → Nat → List V → Hp → Prop, (∃ m, W 0 m [] (upd H1 D (.lst []))) ∧
      ∀ i m ys H', W i m ys H' → H' D = some (.lst ys) ∧ (((Itt K a).stop i H' ∧ Q H') ∨ ((Itt K a).go i H' ∧ ∀ z H2, (Itt K a).yld i H' z H2 → te (σ ++ [some z]) H2 fun v H3 => H3 D = some (.lst ys) ∧ ys.length < sizeLine ∧ ∃ m', m' < m ∧ W (i + 1) m' (ys ++ [v]) (upd H3 D (.lst (ys ++ [v]))))) := by
  refine ⟨fun i m ys H' => m = xs.length - i ∧ i ≤ xs.length ∧ Pv i ys H', ⟨xs.length, by simp, Nat.zero_le _, h0⟩, ?_⟩
  rintro i m ys H' ⟨rfl, hi, p⟩
  obtain ⟨q, eD⟩ := hl i ys H' hi p
  refine ⟨eD, ?_⟩
  by_cases hlt : i < xs.length
  · refine .inr ⟨⟨xs, xs[i], q, by simp [hlt]⟩, fun z H2 y => ?_⟩
    obtain ⟨e, y⟩ := y
    subst e
    refine mono _ _ _ _ (fun v H3 ⟨z1, z2, z3⟩ => ⟨z1, z2, xs.length - (i + 1), by omega, rfl, hlt, z3⟩) (hs i z ys _ (y xs q) p)
  · have e : i = xs.length := by omega
    subst e
    exact .inl ⟨⟨xs, q, Nat.le_refl _⟩, hd ys H' p⟩
/-! ### long quotients -/
def CDivL (_ j : Int) : Prop := j ≠ 0 ∧ j.natAbs < 2 ^ 9000
theorem op_fdivL {X : Cx} : OpR X (binaryOp .FloorDiv) (rI CDivL fun i j => .int (i.fdiv j)) :=
  opI fun _ _ _ _ _ _ _ hc q => floordiv_int hc.1 q (.inl (PyProof.noPylong_of_log2 ((Nat.log2_lt (by have := hc.1; omega)).mpr hc.2)))
end L2

namespace My
open PySem L2 PyProof.Rows
def top (i : Nat) : Stmt := PySem.Challenge.pw_evenkin_k63_steps_refused.main.body.getD i (.Pass ⟨0, 0, 0, 0⟩)
def clsAt (s : Stmt) (i : Nat) : Stmt := match s with
  | .ClassDef _ _ _ b .. => b.getD i (.Pass ⟨0, 0, 0, 0⟩)
  | _ => .Pass ⟨0, 0, 0, 0⟩
abbrev sInit : Stmt := clsAt (top 3) 0
abbrev sCol : Stmt := top 9
abbrev sCols : Stmt := top 10
abbrev sDot : Stmt := top 11
abbrev sEach : Stmt := top 12
abbrev sProd : Stmt := top 13
abbrev sInOne : Stmt := top 14
abbrev sInSq : Stmt := top 15
abbrev sGd : Stmt := top 17
abbrev sFr : Stmt := top 18
abbrev sInner : Stmt := top 21
abbrev sAll : Stmt := top 22
abbrev sLowered : Stmt := top 23
abbrev sBothRow : Stmt := top 24
abbrev sPlusRow : Stmt := top 25
abbrev sManyRow : Stmt := top 26
abbrev sThen : Stmt := top 27
abbrev sWhereSame : Stmt := top 28
abbrev sLeaf : Stmt := top 29
abbrev sFromOne : Stmt := top 30
abbrev sFromTwo : Stmt := top 31
abbrev sByKind : Stmt := top 32
abbrev sAny : Stmt := top 33
abbrev sFrs : Stmt := top 34
abbrev sTot : Stmt := top 35
abbrev sNamed : Stmt := top 37
abbrev sLook : Stmt := top 38
abbrev sValStep : Stmt := top 39
abbrev sVals : Stmt := top 40
abbrev sTables : Stmt := top 41
abbrev sTotal : Stmt := top 42
abbrev sWhole : Stmt := top 45
abbrev sMix : Stmt := top 46
abbrev sBegun : Stmt := top 47
abbrev sTake : Stmt := top 48
abbrev sIs : Stmt := top 49
abbrev sNumber : Stmt := top 50
abbrev sSteps : Stmt := top 51
abbrev sDue : Stmt := top 52
abbrev sCaught : Stmt := top 53
abbrev sPlace : Stmt := top 54
abbrev sLaw : Stmt := top 55

/-! what the webs' part has too: the text's parts, rules at another context -/
section
variable {K : PySem.W.Frag}
def bodyAt (s : Stmt) (i : Nat) : Stmt := (defBody s).getD i (.Pass ⟨0, 0, 0, 0⟩)
def asgVal (s : Stmt) : Expr := match s with
  | .Assign _ v _ => v
  | .Return (some v) _ => v
  | _ => .Constant .none 0 ⟨0, 0, 0, 0⟩
def lcScope (e : Expr) : Scope := match e with
  | .ListComp _ _ sc _ => sc
  | _ => { kind := .function, names := [], isGenerator := false, isCoroutine := false }
def tupAt (e : Expr) (i : Nat) : Expr := match e with
  | .Tuple es _ _ => es.getD i (.Constant .none 0 ⟨0, 0, 0, 0⟩)
  | _ => .Constant .none 0 ⟨0, 0, 0, 0⟩
theorem ix_tupK {K : PySem.W.Frag} {X : Cx} (h : X.K = K := by rfl) : IxR X (rIxT K) := by subst h; exact ix_tup
theorem Same.sq {H H' : Hp} {a : Addr} {xs : List V} (e : Same H H') (h : SqL K H a xs) : SqL K H' a xs := (Same.keep (ok := any) e).seq trivial h
theorem take_snoc {α : Type} {xs : List α} {i : Nat} {x : α} (h : xs[i]? = some x) : xs.take (i + 1) = xs.take i ++ [x] := by
  rw [List.take_succ, h]
  rfl
theorem map_get {α β : Type} {f : α → β} {xs : List α} {i : Nat} {y : β} (h : (xs.map f)[i]? = some y) : ∃ x, xs[i]? = some x ∧ y = f x := by
  rw [List.getElem?_map] at h
  obtain ⟨x, h1, h2⟩ := Option.map_eq_some_iff.mp h
  exact ⟨x, h1, h2.symm⟩
theorem cut_ints (ns : List Int) (lo hi : Option Int) : ∃ ms : List Int, cutV (ns.map V.int) lo hi = ms.map V.int ∧ ms.length ≤ ns.length := by
  unfold cutV
  rw [← List.map_drop, ← List.map_take]
  exact ⟨_, rfl, by rw [List.length_take, List.length_drop]; omega⟩
/-- a statement whose end is told by a word of one's own -/
def tMid (t u : TS) : TS := fun D σ H => ∃ J : L2.St → Hp → Prop, t { D with nx := J } σ H ∧ ∀ σ' H', J σ' H' → u D σ' H'
theorem pss_mid {X : Cx} {st : Stmt} {rest : List Stmt} {t u : TS} (h1 : PS X st t) (h2 : PSs X rest u) : PSs X (st :: rest) (tMid t u) := by
  intro pins s σ H D I h
  obtain ⟨J, h, k⟩ := h
  refine wpAny_execs_cons (thn (h1 pins s σ H { D with nx := J } I h) fun f s1 q => ?_)
  cases f with
  | next =>
    obtain ⟨σ', H', I', q⟩ := q
    exact h2 pins s1 σ' H' D I' (k σ' H' q)
  | ret v => exact q
  | brk => exact q
  | cont => exact q
/-! ### lists of ints as data -/
def dI (ns : List Int) : PyData := .list (ns.map .int)
theorem lay_ints : ∀ ns : List Int, PyData.canLayAll0 (ns.map .int) = true ∧ PyData.depthAll (ns.map .int) = 0
  | [] => ⟨rfl, rfl⟩
  | n :: ns => by
    obtain ⟨h1, h2⟩ := lay_ints ns
    refine ⟨?_, ?_⟩
    · rw [List.map_cons]
      simp only [PyData.canLayAll0, PyData.canLay0, h1, Bool.and_self]
    · rw [List.map_cons]
      simp only [PyData.depthAll, PyData.depth, h2, Nat.max_self]
theorem lay_dI (ns : List Int) : (dI ns).canLay0 = true ∧ (dI ns).depth ≤ 1 := by
  obtain ⟨h1, h2⟩ := lay_ints ns
  unfold dI
  exact ⟨by simp only [PyData.canLay0, h1], by simp only [PyData.depth, h2]; exact Nat.le_refl _⟩
theorem das_ints {ok : Addr → Prop} {H : Hp} : ∀ ns : List Int, DAs K ok H (ns.map V.int) (ns.map .int)
  | [] => .nil
  | n :: ns => .cons (.int n) (das_ints ns)
theorem daI {ok : Addr → Prop} {H : Hp} {a : Addr} {ns : List Int} (n : ok a) (h : SqL K H a (ns.map V.int)) : DA K ok H (.ref a) (dI ns) := .lst n h (das_ints ns)
theorem eqv_ints : ∀ a b : List Int, PyData.eqvAll (a.map .int) (b.map .int) = decide (a = b)
  | [], [] => rfl
  | [], b :: bs => rfl
  | a :: as, [] => rfl
  | a :: as, b :: bs => by
    rw [List.map_cons, List.map_cons]
    simp only [PyData.eqvAll, PyData.eqv, eqv_ints as bs]
    by_cases h : a = b
    · subst h
      by_cases h2 : as = bs
      · subst h2; simp
      · simp [h2]
    · simp [h]
theorem eqv_dI (a b : List Int) : PyData.eqv (dI a) (dI b) = decide (a = b) := by
  unfold dI
  simp only [PyData.eqv]
  exact eqv_ints a b
end

/-! THE DRAWS: _law_mix, _law_begun, _law_take, _law_weight -/
section
variable {P : Program} {w : World} {K : PySem.W.Frag} {mg : Str → Option Value} {base : Heap}
/-- a draw stands at p: three ints, the second at most n -/
def Drw (H : Hp) (p : Addr) (n : Nat) : Prop := ∃ a b c : Int, H p = some (.lst [.int a, .int b, .int c]) ∧ 0 ≤ b ∧ b ≤ (n : Int)
/-- all but p is as it was -/
def But (p : Addr) (H H' : Hp) : Prop := ∀ b o, b ≠ p → H b = some o → H' b = some o
theorem But.trans {p : Addr} {H H1 H2 : Hp} (a : But p H H1) (b : But p H1 H2) : But p H H2 := fun c o n h => b c o n (a c o n h)
theorem But.upd {p : Addr} {H : Hp} {o : HO} : But p H (upd H p o) := fun b u n h => by rw [upd_ne n]; exact h
theorem But.new {p q : Addr} {H : Hp} {o : HO} (h : H q = none) : But p H (L2.upd H q o) := fun b u _ e => by rw [upd_ne (ne_of_none e h)]; exact e
theorem Drw.new {p q : Addr} {H : Hp} {o : HO} {n : Nat} (d : Drw H p n) (h : H q = none) : Drw (L2.upd H q o) p n := by
  obtain ⟨a, b, c, e, r⟩ := d
  exact ⟨a, b, c, by rw [upd_ne (ne_of_none e h)]; exact e, r⟩
theorem Drw.mono {p : Addr} {H : Hp} {n m : Nat} (d : Drw H p n) (h : n ≤ m) : Drw H p m := by
  obtain ⟨a, b, c, e, r1, r2⟩ := d
  exact ⟨a, b, c, e, r1, by omega⟩
def spMix : Sp := fun vs H Q _ => ∃ c k : Int, vs = [.int c, .int k] ∧ 0 ≤ k ∧ k < 2 ^ 40 ∧ ∀ r : Int, Q (.int r) H
def spBegun : Sp := fun vs H Q _ => ∃ c : Int, vs = [.int c] ∧ ∀ p H', H p = none → Same H H' → Drw H' p 1 → Q (.ref p) H'
def spTake : Sp := fun vs H Q _ => ∃ (p : Addr) (m : Int) (n : Nat), vs = [.ref p, .int m] ∧ 0 < m ∧ m < 1073741824 ∧ Drw H p n ∧ n ≤ 1000000 ∧ ∀ (r : Int) H', 0 ≤ r → r < m → But p H H' → Drw H' p (n + 2) → Q (.int r) H'
theorem cmul_l {x y : Int} (h1 : -(2 ^ 64) < x) (h2 : x < 2 ^ 64) : CMul x y := .inl ⟨h1, h2⟩
theorem cmul_r {x y : Int} (h1 : -(2 ^ 64) < y) (h2 : y < 2 ^ 64) : CMul x y := .inr ⟨h1, h2⟩
theorem scMix : FnScope ["_law_cell", "_law_k", "_law_x"] ["_law_cell", "_law_k"] (defScope sMix) := ⟨rfl, rfl, rfl, by decide +kernel, rfl, by decide +kernel, by decide +kernel⟩
theorem ok_mix {f : Addr} {fd : FuncData} (F : Fun K "_law_mix" "_law_mix" sMix f fd) : FnOk P w K mg base CX0 1 f fd ["_law_cell", "_law_k"] spMix := by
  refine F.ok scMix (fun vs H Q E h => ?_) (fun cdv A outer s H vs Q E hr h => ?_)
  · obtain ⟨a, b, rfl, _⟩ := h
    rfl
  · obtain ⟨c, k, rfl, h0, h1, q⟩ := h
    refine ⟨_, pss_cons (ps_set (i := 2) scMix.nd rfl (Or.inl rfl) (pe_op op_mod (pe_op op_add (pe_op op_mod (pv 0) pe_int) (pe_op op_mul pe_int (pv 1))) pe_int))
      (pss_cons (ps_set (i := 2) scMix.nd rfl (Or.inl rfl) (pe_op op_mod (pe_op op_add (pe_op op_add (pe_op op_add (pe_op op_mul (pv 2) (pv 2)) (pe_op op_mul pe_int (pv 2))) (pe_op op_mul (pe_op op_mul (pv 1) (pv 1)) (pv 1))) pe_int) pe_int))
      (pss_one (ps_ret (pe_op op_mod (pe_op op_mul (pv 2) (pv 2)) pe_int)))), ?_⟩
    refine ⟨_, rfl, _, _, rfl, rfl, (by show (0 : Int) < 2147483647; decide), _, rfl, _, _, rfl, rfl, cmul_l (by decide) (by decide), _, _, rfl, rfl, _, _, rfl, rfl, (by show (0 : Int) < 2147483629; decide), ?_⟩
    have b1 := Int.emod_nonneg (c % 2147483647 + 31 * k) (b := 2147483629) (by decide)
    have b2 := Int.emod_lt_of_pos (c % 2147483647 + 31 * k) (b := 2147483629) (by decide)
    generalize (c % 2147483647 + 31 * k) % 2147483629 = x at b1 b2 ⊢
    refine ⟨_, rfl, _, rfl, _, _, rfl, rfl, cmul_l (by omega) (by omega), _, rfl, _, _, rfl, rfl, cmul_l (by decide) (by decide), _, _, rfl, rfl, _, rfl, _, rfl, _, _, rfl, rfl, cmul_l (by omega) (by omega), _, rfl, _, _, rfl, rfl, cmul_r (by omega) (by omega), _, _, rfl, rfl, _, _, rfl, rfl, _, _, rfl, rfl, (by show (0 : Int) < 2147483629; decide), ?_⟩
    have c1 := Int.emod_nonneg (x * x + 16807 * x + k * k * k + 7) (b := 2147483629) (by decide)
    have c2 := Int.emod_lt_of_pos (x * x + 16807 * x + k * k * k + 7) (b := 2147483629) (by decide)
    generalize (x * x + 16807 * x + k * k * k + 7) % 2147483629 = y at c1 c2 ⊢
    refine ⟨_, rfl, _, rfl, _, _, rfl, rfl, cmul_l (by omega) (by omega), _, _, rfl, rfl, (by show (0 : Int) < 2147483587; decide), q _⟩
theorem scBegun : FnScope ["_law_cell"] ["_law_cell"] (defScope sBegun) := ⟨rfl, rfl, rfl, by decide +kernel, rfl, by decide +kernel, by decide +kernel⟩
theorem ok_begun {f : Addr} {fd : FuncData} (F : Fun K "_law_begun" "_law_begun" sBegun f fd) : FnOk P w K mg base CX0 1 f fd ["_law_cell"] spBegun := by
  refine F.ok scBegun (fun vs H Q E h => ?_) (fun cdv A outer s H vs Q E hr h => ?_)
  · obtain ⟨a, rfl, _⟩ := h
    rfl
  · obtain ⟨c, rfl, q⟩ := h
    refine ⟨_, pss_one (ps_ret (pe_lst (pa_cons (pe_op op_fdiv (pv 0) pe_int) (pa_cons (pe_op op_mod (pv 0) pe_int) (pa_cons (pv 0) pa_nil))))), ?_⟩
    refine ⟨_, rfl, _, _, rfl, rfl, ⟨by decide, by decide⟩, _, rfl, _, _, rfl, rfl, (by show (0 : Int) < 2; decide), _, rfl, (by show 3 ≤ sizeLine; decide), fun p hp => ?_⟩
    have b1 := Int.emod_nonneg c (b := 2) (by decide)
    have b2 := Int.emod_lt_of_pos c (b := 2) (by decide)
    exact q p _ hp (Same.upd hp) ⟨_, _, _, upd_same, b1, by omega⟩
theorem ix0 (a b c : V) : atI [a, b, c] 0 = some a := rfl
theorem ix1 (a b c : V) : atI [a, b, c] 1 = some b := rfl
theorem ix2 (a b c : V) : atI [a, b, c] 2 = some c := rfl
theorem scTake : FnScope ["_law_draw", "_law_most", "_law_found"] ["_law_draw", "_law_most"] (defScope sTake) := ⟨rfl, rfl, rfl, by decide +kernel, rfl, by decide +kernel, by decide +kernel⟩
theorem ok_take {f fM : Addr} {fd fdM : FuncData} (F : Fun K "_law_take" "_law_take" sTake f fd) (DM : Dn K mg "_law_mix" sMix ["_law_cell", "_law_k"] fM fdM) : FnOk P w K mg base CX0 2 f fd ["_law_draw", "_law_most"] spTake := by
  have GM : FnOk P w K mg base CX0 1 fM fdM ["_law_cell", "_law_k"] spMix := ok_mix DM.fn
  refine F.ok scTake (fun vs H Q E h => ?_) (fun cdv A outer s H vs Q E hr h => ?_)
  · obtain ⟨p, m, n, rfl, _⟩ := h
    rfl
  · obtain ⟨p, m, n, rfl, hm0, hm1, ⟨a, b, c, hp, hb0, hb1⟩, hn, q⟩ := h
    refine ⟨_, pss_cons (ps_if (PW.pt (pw_and (pt_cmpR op_eq (pe_ix ix_list (pv 0) pe_int (fun _ _ => rfl)) pe_int (nomark _)) (pw_and1 (pt_cmpR op_in_seq (pe_ix ix_list (pv 0) pe_int (fun _ _ => rfl)) (pe_lst (pa_cons pe_int (pa_cons (pe_un un_neg pe_int) pa_nil))) rfl))))
        (pss_cons (ps_asg pe_int (pg_sub (pv 0) pe_int set_list)) (pss_one (ps_asg (pe_ix ix_list (pv 0) pe_int (fun _ _ => rfl)) (pg_sub (pv 0) pe_int set_list)))) pss_nil)
      (pss_cons (ps_if (pt_cmpR op_eq (pe_ix ix_list (pv 0) pe_int (fun _ _ => rfl)) pe_int (nomark _))
        (pss_cons (ps_set (i := 2) scTake.nd rfl (Or.inl rfl) (pe_op op_mod (pe_ix ix_list (pv 0) pe_int (fun _ _ => rfl)) (pv 1)))
        (pss_cons (ps_asg (pe_op op_fdiv (pe_ix ix_list (pv 0) pe_int (fun _ _ => rfl)) (pv 1)) (pg_sub (pv 0) pe_int set_list))
        (pss_one (ps_ret (pv 2))))) pss_nil)
      (pss_cons (ps_asg (pe_op op_add (pe_ix ix_list (pv 0) pe_int (fun _ _ => rfl)) pe_int) (pg_sub (pv 0) pe_int set_list))
      (pss_one (ps_ret (pe_op op_mod (pe_fn DM GM hr rfl (pa_cons (pe_ix ix_list (pv 0) pe_int (fun _ _ => rfl)) (pa_cons (pe_ix ix_list (pv 0) pe_int (fun _ _ => rfl)) pa_nil))) (pv 1)))))), ?_⟩
    have hc0 : ∀ (H1 : Hp) (a1 b1 : Int), But p H H1 → H1 p = some (.lst [.int a1, .int b1, .int c]) → 0 ≤ b1 → b1 ≤ (n : Int) + 1 → b1 = 0 → ∀ z : Int, But p H (upd H1 p (.lst [.int z, .int b1, .int c])) ∧ Drw (upd H1 p (.lst [.int z, .int b1, .int c])) p (n + 2) := fun H1 a1 b1 hB h1 h2 h3 _ z =>
      ⟨hB.trans But.upd, z, b1, c, upd_same, h2, by omega⟩
    refine ⟨_, rfl, p, _, _, _, rfl, rfl, SqL.of hp, ix1 _ _ _, rfl, _, rfl, ?_⟩
    by_cases hb : b = 0
    · refine itDP (by rw [hb]) ?_
      refine ⟨_, rfl, p, _, _, _, rfl, rfl, SqL.of hp, ix0 _ _ _, 1, rfl, (by show 2 ≤ sizeLine; decide), fun l hl => ⟨l, _, rfl, .inl (SqL.of upd_same), rfl, rfl, _, rfl, ?_⟩⟩
      have npl : p ≠ l := ne_of_none hp hl
      have hp1 : upd H l (.lst [.int 0, .int (-1)]) p = some (.lst [.int a, .int b, .int c]) := by rw [upd_ne npl]; exact hp
      have hB1 : But p H (upd H l (.lst [.int 0, .int (-1)])) := But.new hl
      generalize upd H l (.lst [.int 0, .int (-1)]) = H1 at hp1 hB1 ⊢
      generalize inV (V.int a) [V.int 0, V.int (-1)] = t
      cases t with
      | true =>
        refine iteT ?_
        refine ⟨_, rfl, p, _, 1, 1, rfl, rfl, hp1, rfl, ?_⟩
        refine ⟨_, rfl, p, _, _, _, rfl, rfl, SqL.of upd_same, ix2 _ _ _, _, rfl, p, _, 0, 0, rfl, rfl, upd_same, rfl, ?_⟩
        rw [upd_upd]
        have hp2 : upd H1 p (.lst [.int c, .int 1, .int c]) p = some (.lst [.int c, .int 1, .int c]) := upd_same
        have hB2 : But p H (upd H1 p (.lst [.int c, .int 1, .int c])) := hB1.trans But.upd
        refine ⟨_, rfl, p, _, _, _, rfl, rfl, SqL.of hp2, ix1 _ _ _, rfl, _, rfl, ?_⟩
        refine itDN (by intro z; cases z) ?_
        refine ⟨_, rfl, p, _, _, _, rfl, rfl, SqL.of hp2, ix1 _ _ _, _, _, rfl, rfl, _, rfl, p, _, 1, 1, rfl, rfl, hp2, rfl, ?_⟩
        rw [upd_upd]
        refine ⟨_, rfl, p, _, _, _, rfl, rfl, SqL.of upd_same, ix0 _ _ _, _, rfl, p, _, _, _, rfl, rfl, SqL.of upd_same, ix1 _ _ _, _, _, rfl, (by decide), (by decide), fun r => ?_⟩
        refine ⟨_, rfl, _, _, rfl, rfl, hm0, ?_⟩
        exact q _ _ (Int.emod_nonneg _ (Int.ne_of_gt hm0)) (Int.emod_lt_of_pos _ hm0) (hB1.trans But.upd) ⟨c, 1 + 1, c, upd_same, by decide, by omega⟩
      | false =>
        refine iteF ?_
        refine ⟨_, rfl, p, _, _, _, rfl, rfl, SqL.of hp1, ix1 _ _ _, rfl, _, rfl, ?_⟩
        refine itDP (by rw [hb]) ?_
        refine ⟨_, rfl, p, _, _, _, rfl, rfl, SqL.of hp1, ix0 _ _ _, _, rfl, _, _, rfl, rfl, hm0, ?_⟩
        refine ⟨_, rfl, p, _, _, _, rfl, rfl, SqL.of hp1, ix0 _ _ _, _, rfl, _, _, rfl, rfl, ⟨hm0, hm1⟩, _, rfl, p, _, 0, 0, rfl, rfl, hp1, rfl, ?_⟩
        refine ⟨_, rfl, ?_⟩
        exact q _ _ (Int.emod_nonneg _ (Int.ne_of_gt hm0)) (Int.emod_lt_of_pos _ hm0) (hB1.trans But.upd) ⟨_, b, c, upd_same, hb0, by omega⟩
    · refine itDN (fun z => hb (V.int.inj z)) ?_
      refine iteF ?_
      refine ⟨_, rfl, p, _, _, _, rfl, rfl, SqL.of hp, ix1 _ _ _, rfl, _, rfl, ?_⟩
      refine itDN (fun z => hb (V.int.inj z)) ?_
      refine ⟨_, rfl, p, _, _, _, rfl, rfl, SqL.of hp, ix1 _ _ _, _, _, rfl, rfl, _, rfl, p, _, 1, 1, rfl, rfl, hp, rfl, ?_⟩
      refine ⟨_, rfl, p, _, _, _, rfl, rfl, SqL.of upd_same, ix0 _ _ _, _, rfl, p, _, _, _, rfl, rfl, SqL.of upd_same, ix1 _ _ _, _, _, rfl, (by omega), (by omega), fun r => ?_⟩
      refine ⟨_, rfl, _, _, rfl, rfl, hm0, ?_⟩
      exact q _ _ (Int.emod_nonneg _ (Int.ne_of_gt hm0)) (Int.emod_lt_of_pos _ hm0) But.upd ⟨a, b + 1, c, upd_same, by omega, by omega⟩
theorem pow59 : CPow 10 59 := ⟨by decide, by decide, by decide⟩
end
section
variable {P : Program} {w : World} {K : PySem.W.Frag} {mg : Str → Option Value} {base : Heap}
theorem ix_listK {K : PySem.W.Frag} {X : Cx} (h : X.K = K := by rfl) : IxR X (rIxL K) := by subst h; exact ix_list
theorem snoc_get {α : Type} {xs : List α} {x y : α} {i : Nat} (h : (xs ++ [x])[i]? = some y) : xs[i]? = some y ∨ (i = xs.length ∧ y = x) := by
  by_cases hi : i < xs.length
  · rw [List.getElem?_append_left hi] at h
    exact .inl h
  · rw [List.getElem?_append_right (by omega)] at h
    cases e : i - xs.length with
    | zero => rw [e] at h; cases h; exact .inr ⟨by omega, rfl⟩
    | succ j => rw [e] at h; cases h
theorem get_lt {α : Type} {l : List α} {i : Nat} (h : i < l.length) : ∃ x, l[i]? = some x := ⟨l[i], List.getElem?_eq_getElem h⟩
theorem lt_get {α : Type} {l : List α} {i : Nat} {x : α} (h : l[i]? = some x) : i < l.length := (List.getElem?_eq_some_iff.mp h).1
end

/-! THE PROGRAM: divisors, fractions -/
section
variable {P : Program} {w : World} {K : PySem.W.Frag} {mg : Str → Option Value} {base : Heap}
structure BltR (mg : Str → Option Value) : Prop where
  abs : mg "abs" = none
  len : mg "len" = none
  sum : mg "sum" = none
  zip : mg "zip" = none
  range : mg "range" = none
  enum : mg "enumerate" = none
  isi : mg "isinstance" = none
  verr : mg "ValueError" = none
  int : mg "int" = none
  bool : mg "bool" = none
  list : mg "list" = none
  tuple : mg "tuple" = none
def CMulN (i j : Int) : Prop := ∃ n, n ≤ 1000000 ∧ M11.Bn n i ∧ M11.Bn n j
theorem op_mulN {X : Cx} : OpR X (binaryOp .Mult) (rI CMulN fun i j => .int (i * j)) :=
  opI fun _ _ _ _ _ _ _ hc q => mul_int q (by
    obtain ⟨n, h, a, b⟩ := hc
    have e : (2 : Nat) ^ 20 = 1048576 := by decide
    exact IntMulOk.of_bits (Nat.le_trans (bits_le a) (by omega)) (Nat.le_trans (bits_le b) (by omega)))
def tupF (l : Int × Int) : HO := .tup [.int l.1, .int l.2]
def TM.dot (w r : List Int) : Int := (List.zipWith (fun a b => a * b) w r).sum
def spG : Sp := fun vs H Q _ => ∃ a b : Int, vs = [.int a, .int b] ∧ Q (.int (M11.G a b)) H
def spF : Sp := fun vs H Q _ => ∃ t b : Int, vs = [.int t, .int b] ∧ b ≠ 0 ∧ b.natAbs < 2 ^ 9000 ∧ ∀ p, H p = none → Q (.ref p) (upd H p (tupF (M11.low t b)))
theorem scGd : FnScope ["number", "other", "rest"] ["number", "other"] (defScope sGd) := ⟨rfl, rfl, rfl, by decide +kernel, rfl, by decide +kernel, by decide +kernel⟩
theorem ok_gd {f : Addr} {fd : FuncData} (B : BltR mg) (F : Fun K "greatest_divisor" "greatest_divisor" sGd f fd) : FnOk P w K mg base CX0 1 f fd ["number", "other"] spG := by
  refine F.ok scGd (fun vs H Q E h => ?_) (fun cdv A outer s H vs Q E hr h => ?_)
  · obtain ⟨a, b, rfl, _⟩ := h
    rfl
  · obtain ⟨a, b, rfl, k⟩ := h
    refine ⟨_, pss_cons (ps_while PassesOwn.never (pt_cmpR op_ne (pv 1) pe_int (nomark _))
        (pss_cons (ps_set (i := 2) scGd.nd rfl (Or.inl rfl) (pe_op op_modN (pv 0) (pv 1)))
        (pss_cons (ps_set (i := 0) scGd.nd rfl (Or.inl rfl) (pv 1))
        (pss_one (ps_set (i := 1) scGd.nd rfl (Or.inl rfl) (pv 2))))))
      (pss_one (ps_ret (pe_callB call_abs (by rfl) B.abs boot_abs (pa_cons (pv 0) pa_nil)))), ?_⟩
    refine while_by (fun σ H' => ∃ (x y : Int) (r : Option V), σ = [some (.int x), some (.int y), r] ∧ H' = H ∧ Int.gcd x y = Int.gcd a b)
      (fun σ _ => match σ with | [_, some (.int y), _] => y.natAbs | _ => 0) ⟨a, b, none, rfl, rfl, rfl⟩ ?_ ?_
    · rintro σ H' ⟨x, y, r, rfl, rfl, hg⟩
      refine ⟨_, rfl, rfl, _, rfl, ?_⟩
      by_cases hy : y = 0
      · subst hy
        refine iteNS rfl ?_
        refine ⟨_, rfl, x, rfl, ?_⟩
        have e : (if x < 0 then -x else x) = M11.G a b := by
          rw [M11.gcd_end]
          show ((Int.gcd x 0 : Nat) : Int) = ((Int.gcd a b : Nat) : Int)
          rw [hg]
        rw [e]
        exact k
      · refine iteNP (fun z => hy (V.int.inj z)) ?_
        refine ⟨_, rfl, _, rfl, x, y, rfl, rfl, hy, _, rfl, _, rfl, ?_⟩
        exact ⟨⟨y, x.fmod y, _, rfl, rfl, by rw [M11.gcd_step]; exact hg⟩, M11.fmod_small x y hy⟩
    · rintro σ H' Q1 Q2 hq ⟨v, e, sc, c, ec, q⟩
      exact ⟨v, e, sc, c, ec, hq _ _ q⟩
theorem scFr : FnScope ["top", "bottom", "divisor"] ["top", "bottom"] (defScope sFr) := ⟨rfl, rfl, rfl, by decide +kernel, rfl, by decide +kernel, by decide +kernel⟩
theorem cdivB {t b : Int} (h : b ≠ 0) (hb : b.natAbs < 2 ^ 9000) (u d : Int) (e : d = M11.sgn t b) : CDivL u d := by
  subst e
  exact ⟨M11.sgn_ne h, Nat.lt_of_le_of_lt (M11.sgn_le h) hb⟩
theorem ok_fr {f fG : Addr} {fd fdG : FuncData} (B : BltR mg) (F : Fun K "fraction_of" "fraction_of" sFr f fd) (DG : Dn K mg "greatest_divisor" sGd ["number", "other"] fG fdG) (GG : FnOk P w K mg base CX0 1 fG fdG ["number", "other"] spG) : FnOk P w K mg base CX0 2 f fd ["top", "bottom"] spF := by
  refine F.ok scFr (fun vs H Q E h => ?_) (fun cdv A outer s H vs Q E hr h => ?_)
  · obtain ⟨a, b, rfl, _⟩ := h
    rfl
  · obtain ⟨t, b, rfl, hb, hz, k⟩ := h
    refine ⟨_, pss_cons (ps_set (i := 2) scFr.nd rfl (Or.inl rfl) (pe_fn DG GG hr rfl (pa_cons (pv 0) (pa_cons (pv 1) pa_nil))))
      (pss_cons (ps_if (pt_cmpR op_lt (pv 1) pe_int (nomark _)) (pss_one (ps_set (i := 2) scFr.nd rfl (Or.inl rfl) (pe_un un_neg (pv 2)))) pss_nil)
      (pss_one (ps_ret (pe_tup (pa_cons (pe_op op_fdivL (pv 0) (pv 2)) (pa_cons (pe_op op_fdivL (pv 1) (pv 2)) pa_nil)))))), ?_⟩
    refine ⟨_, rfl, _, rfl, t, b, rfl, ?_⟩
    refine ⟨_, rfl, _, _, rfl, rfl, _, rfl, ?_⟩
    by_cases hn : b < 0
    · refine itDP hn ?_
      have e : -(M11.G t b) = M11.sgn t b := (if_pos hn).symm
      refine ⟨_, rfl, _, rfl, ?_⟩
      refine ⟨_, rfl, _, rfl, _, _, rfl, rfl, cdivB hb hz _ _ e, _, rfl, _, rfl, _, _, rfl, rfl, cdivB hb hz _ _ e, (by show 2 ≤ sizeLine; decide), fun p hp => ?_⟩
      have q := k p hp
      unfold M11.low at q
      rw [← e] at q
      exact q
    · refine itDN hn ?_
      have e : M11.G t b = M11.sgn t b := (if_neg hn).symm
      refine ⟨_, rfl, _, rfl, _, _, rfl, rfl, cdivB hb hz _ _ e, _, rfl, _, rfl, _, _, rfl, rfl, cdivB hb hz _ _ e, (by show 2 ≤ sizeLine; decide), fun p hp => ?_⟩
      have q := k p hp
      unfold M11.low at q
      rw [← e] at q
      exact q
theorem cut_behind (pre ks : List V) : cutV (pre ++ ks) (some ((pre.length : Nat) : Int)) none = ks := by
  unfold cutV
  rw [HT.sIx_nat, HT.sIx_none, List.length_append, Nat.min_eq_left (by omega), List.drop_left]
  exact List.take_of_length_le (by omega)
theorem at_hd (x : V) (xs : List V) : atI (x :: xs) 0 = some x := atI_nat (xs := x :: xs) (j := 0) rfl
theorem at_snd (x y : V) (xs : List V) : atI (x :: y :: xs) 1 = some y := atI_nat (xs := x :: y :: xs) (j := 1) rfl
theorem lc_vals {a : Addr} {xs : List V} {te : TE} {Q : Hp → Prop} {σ : L2.St} {H1 : Hp} {D : Addr} (vs : List V) (hlen : vs.length = xs.length) (hm : xs.length ≤ 900) (hD : H1 D = none) (hxs : SqL K H1 a xs)
    (hs : ∀ (i : Nat) (x v : V) (H' : Hp), xs[i]? = some x → vs[i]? = some v → Same H1 H' → te (σ ++ [some x]) H' fun u H3 => u = v ∧ Same H' H3)
    (hd : ∀ H', Same H1 H' → H' D = some (.lst vs) → Q H')
    (mono : ∀ σ H Q Q', (∀ v H1, Q v H1 → Q' v H1) → te σ H Q → te σ H Q') :
    ∃ W : Nat → Nat → List V → Hp → Prop, (∃ m, W 0 m [] (upd H1 D (.lst []))) ∧
      ∀ i m ys H', W i m ys H' → H' D = some (.lst ys) ∧ (((Itl K a).stop i H' ∧ Q H') ∨ ((Itl K a).go i H' ∧ ∀ z H2, (Itl K a).yld i H' z H2 → te (σ ++ [some z]) H2 fun v H3 => H3 D = some (.lst ys) ∧ ys.length < sizeLine ∧ ∃ m', m' < m ∧ W (i + 1) m' (ys ++ [v]) (upd H3 D (.lst (ys ++ [v]))))) := by
  refine lc_list (xs := xs) (fun i ys H' => ys = vs.take i ∧ Same H1 H' ∧ H' D = some (.lst ys)) ⟨by rw [List.take_zero], Same.upd hD, upd_same⟩ (fun i ys H' _ ⟨_, sm, eD⟩ => ⟨Same.sq sm hxs, eD⟩) ?_ ?_ mono
  · rintro i x ys H4 hx ⟨rfl, s4, eD⟩
    have hi : i < vs.length := by rw [hlen]; exact (List.getElem?_eq_some_iff.mp hx).1
    have hv : vs[i]? = some vs[i] := List.getElem?_eq_getElem hi
    refine mono _ _ _ _ ?_ (hs i x vs[i] H4 hx hv s4)
    rintro u H5 ⟨rfl, s5⟩
    refine ⟨s5 _ _ eD, small1000 (by rw [List.length_take]; omega), by rw [take_snoc hv], fun b o e => ?_, upd_same⟩
    rw [upd_ne (ne_of_none e hD)]
    exact s5 _ _ (s4 _ _ e)
  · rintro ys H4 ⟨rfl, s4, eD⟩
    rw [← hlen, List.take_length] at eD
    exact hd H4 s4 eD
theorem set2 (σ : L2.St) (a b : Option V) (x y : V) : ((σ ++ [a, b]).set σ.length (some x)).set (σ.length + 1) (some y) = σ ++ [some x, some y] := by
  rw [List.set_append_right _ _ (Nat.le_refl _), Nat.sub_self, List.set_append_right _ _ (Nat.le_succ _)]
  have : σ.length + 1 - σ.length = 1 := by omega
  rw [this]
  rfl
theorem lc_zip {a b : Addr} {xs ys : List V} {te : TE} {Q : VK} {σ : L2.St} {n : Nat} {H1 : Hp} (vs : List V) (hn : σ.length = n) (hx : SqL K H1 a xs) (hy : SqL K H1 b ys) (hlx : xs.length = vs.length) (hly : ys.length = vs.length) (hm : vs.length ≤ 900)
    (hs : ∀ (i : Nat) (x y v : V) (H' : Hp), xs[i]? = some x → ys[i]? = some y → vs[i]? = some v → Same H1 H' → te (σ ++ [some x, some y]) H' fun u H3 => u = v ∧ Same H' H3)
    (hd : ∀ D H', Same H1 H' → H' D = some (.lst vs) → Q (.ref D) H')
    (mono : ∀ σ H Q Q', (∀ v H1, Q v H1 → Q' v H1) → te σ H Q → te σ H Q') : LcW 2 (Itz K a b) (g2 K n) tYes te σ H1 Q := by
  subst hn
  intro D hD
  refine ⟨fun i m zs H' => m = vs.length - i ∧ i ≤ vs.length ∧ zs = vs.take i ∧ Same H1 H' ∧ H' D = some (.lst zs), ⟨vs.length, by simp, Nat.zero_le _, by rw [List.take_zero], Same.upd hD, upd_same⟩, ?_⟩
  rintro i m zs H2 ⟨rfl, hi, rfl, s2, eD⟩
  refine ⟨eD, ?_⟩
  by_cases hlt : i < vs.length
  · have ex : xs[i]? = some xs[i] := List.getElem?_eq_getElem (by omega)
    have ey : ys[i]? = some ys[i] := List.getElem?_eq_getElem (by omega)
    have ev : vs[i]? = some vs[i] := List.getElem?_eq_getElem hlt
    refine .inr ⟨⟨xs, ys, _, _, Same.sq s2 hx, Same.sq s2 hy, ex, ey⟩, ?_⟩
    rintro z H3 ⟨t, x, y, rfl, ht, rfl, hx', hy'⟩ os los
    have hx1 := hx' xs (Same.sq s2 hx)
    have hy1 := hy' ys (Same.sq s2 hy)
    match os, los with
    | [o1, o2], _ =>
      have s3 : Same H2 (L2.upd H2 t (.tup [x, y])) := Same.upd ht
      refine ⟨t, [x, y], rfl, SqT.of upd_same, rfl, x, [y], rfl, y, [], rfl, rfl, ⟨[some x, some y], set2 σ o1 o2 x y, rfl⟩, ?_⟩
      dsimp only [tYes]
      rw [if_pos rfl, set2 σ o1 o2 x y]
      refine mono _ _ _ _ ?_ (hs i x y vs[i] _ hx1 hy1 ev (s2.trans s3))
      rintro u H5 ⟨rfl, s5⟩
      refine ⟨s5 _ _ (s3 _ _ eD), small1000 (by rw [List.length_take]; omega), vs.length - (i + 1), by omega, rfl, hlt, by rw [take_snoc ev], fun c o e => ?_, upd_same⟩
      rw [upd_ne (ne_of_none e hD)]
      exact s5 _ _ (s3 _ _ (s2 _ _ e))
  · have : i = vs.length := by omega
    subst this
    rw [List.take_length] at eD ⊢
    exact .inl ⟨⟨xs, ys, Same.sq s2 hx, Same.sq s2 hy, .inl (by omega)⟩, hd D H2 s2 eD⟩
theorem foldG_app (b : Int) (a c : List Int) : M11.foldG b (a ++ c) = M11.foldG (M11.foldG b a) c := by
  unfold M11.foldG
  rw [List.foldl_append]
theorem foldG_le {b : Int} (h : 0 < b) (ts : List Int) : (M11.foldG b ts).natAbs ≤ b.natAbs := by
  obtain ⟨h1, h2, _⟩ := M11.foldG_spec ts b h
  have := Int.le_of_dvd h h2
  omega
end

/-! THE PROGRAM'S GRIDS: column_of, columns_of, product_of_grids, in_one_list, in_square, of whatever things -/
section
variable {P : Program} {w : World} {K : PySem.W.Frag} {mg : Str → Option Value} {base : Heap}
/-- rows of things -/
structure GrdV (H : Hp) (rs : List Addr) (X : List (List V)) : Prop where
  len : rs.length = X.length
  row : ∀ (i : Nat) (r : Addr) (x : List V), rs[i]? = some r → X[i]? = some x → H r = some (.lst x)
theorem GrdV.mono {H H' : Hp} {rs : List Addr} {X : List (List V)} (g : GrdV H rs X) (s : Same H H') : GrdV H' rs X := ⟨g.len, fun i r x h1 h2 => s _ _ (g.row i r x h1 h2)⟩
def GrdAt (H : Hp) (a : Addr) (X : List (List V)) : Prop := ∃ rs : List Addr, H a = some (.lst (rs.map V.ref)) ∧ GrdV H rs X
theorem GrdAt.mono {H H' : Hp} {a : Addr} {X : List (List V)} (g : GrdAt H a X) (s : Same H H') : GrdAt H' a X := by
  obtain ⟨rs, h, r⟩ := g
  exact ⟨rs, s _ _ h, r.mono s⟩
/-- a row that is new -/
def NewR (H H' : Hp) (u : V) (x : List V) : Prop := ∃ p, u = .ref p ∧ H' p = some (.lst x) ∧ H p = none
/-- what a comprehension of new rows keeps -/
def GrdI (H1 : Hp) (D : Addr) (X : List (List V)) (i : Nat) (ys : List V) (H' : Hp) : Prop := ∃ rs : List Addr, ys = rs.map V.ref ∧ rs.length = i ∧ Same H1 H' ∧ H' D = some (.lst ys) ∧ (∀ r ∈ rs, r ≠ D) ∧ ∀ (j : Nat) (r : Addr) (x : List V), rs[j]? = some r → X[j]? = some x → H' r = some (.lst x)
theorem GrdI.start {H1 : Hp} {D : Addr} {X : List (List V)} (hD : H1 D = none) : GrdI H1 D X 0 [] (upd H1 D (.lst [])) := ⟨[], rfl, rfl, Same.upd hD, upd_same, (fun r h => by cases h), (fun j r x h _ => by cases h)⟩
theorem GrdI.step {H1 H4 H5 : Hp} {D : Addr} {X : List (List V)} {i : Nat} {ys : List V} {u : V} {x : List V} (hD : H1 D = none) (g : GrdI H1 D X i ys H4) (hx : X[i]? = some x) (hu : NewR H4 H5 u x) (s5 : Same H4 H5) (hm : i < 900) :
    H5 D = some (.lst ys) ∧ ys.length < sizeLine ∧ GrdI H1 D X (i + 1) (ys ++ [u]) (upd H5 D (.lst (ys ++ [u]))) := by
  obtain ⟨rs, rfl, lr, s4, eD, nD, hr⟩ := g
  obtain ⟨p, rfl, hp, hn⟩ := hu
  have npD : p ≠ D := fun z => by rw [z, eD] at hn; cases hn
  refine ⟨s5 _ _ eD, small1000 (by rw [List.length_map]; omega), rs ++ [p], by rw [List.map_append]; rfl, by rw [List.length_append, lr]; rfl, fun b o e => ?_, upd_same, fun r h => ?_, fun j r y h1 h2 => ?_⟩
  · rw [upd_ne (ne_of_none e hD)]
    exact s5 _ _ (s4 _ _ e)
  · rcases List.mem_append.mp h with z | z
    · exact nD r z
    · rw [List.mem_singleton.mp z]; exact npD
  · rcases snoc_get h1 with z | ⟨e, z⟩
    · rw [upd_ne (nD r (List.mem_of_getElem? z))]
      exact s5 _ _ (hr j r y z h2)
    · subst z
      rw [e, lr, hx] at h2
      cases h2
      rw [upd_ne npD]
      exact hp
theorem GrdI.done {H1 H' : Hp} {D : Addr} {X : List (List V)} {ys : List V} (g : GrdI H1 D X X.length ys H') : Same H1 H' ∧ GrdAt H' D X := by
  obtain ⟨rs, rfl, lr, s4, eD, nD, hr⟩ := g
  exact ⟨s4, rs, eD, lr, hr⟩
/-! ### column_of -/
def spCol : Sp := fun vs H Q _ => ∃ (a : Addr) (X : List (List V)) (j : Nat), vs = [.ref a, .int (j : Int)] ∧ GrdAt H a X ∧ X.length ≤ 900 ∧ (∀ x ∈ X, j < x.length) ∧ ∀ D H', Same H H' → H D = none → H' D = some (.lst (X.map fun x => (x[j]?).getD .non)) → Q (.ref D) H'
theorem scCol : FnScope ["rows", "place"] ["rows", "place"] (defScope sCol) := ⟨rfl, rfl, rfl, by decide +kernel, rfl, by decide +kernel, by decide +kernel⟩
theorem lcCol : LcScopes (defScope sCol) ["rows", "place"] (lcScope (asgVal (bodyAt sCol 0))) ["row"] := ⟨by decide +kernel, rfl, by decide +kernel, by decide +kernel, by decide +kernel, by decide +kernel, by decide +kernel, by decide +kernel, by decide +kernel, by decide +kernel⟩
theorem ok_col {f : Addr} {fd : FuncData} (F : Fun K "column_of" "column_of" sCol f fd) : FnOk P w K mg base CX0 1 f fd ["rows", "place"] spCol := by
  refine F.ok scCol (fun vs H Q E h => ?_) (fun cdv A outer s H vs Q E hr h => ?_)
  · obtain ⟨a, X, j, rfl, _⟩ := h
    rfl
  · obtain ⟨a, X, j, rfl, ⟨rs, ha, R⟩, hX, hj, q⟩ := h
    refine ⟨_, pss_one (ps_ret (pe_lc1 rfl lcCol rfl (pi_list (pv 0)) (fun _ _ _ => pe_ix (ix_listK (K := K)) (pv 2) (pv 1) (fun _ _ => rfl)))), ?_⟩
    refine ⟨_, rfl, a, rfl, ⟨_, SqL.of ha⟩, fun D hD => ?_⟩
    refine lc_vals (X.map fun x => (x[j]?).getD .non) (by rw [List.length_map, List.length_map, R.len]) (by rw [List.length_map, R.len]; exact hX) hD (SqL.of ha) ?_ ?_ ?_
    · intro i x v H' hx hv s'
      obtain ⟨r, hr, rfl⟩ := map_get hx
      obtain ⟨y, hy, rfl⟩ := map_get hv
      obtain ⟨z, hz⟩ := get_lt (hj y (List.mem_of_getElem? hy))
      refine ⟨_, rfl, _, rfl, r, _, _, z, rfl, rfl, SqL.of (s' _ _ (R.row i r y hr hy)), atI_nat hz, ?_, Same.refl _⟩
      rw [hz]
      rfl
    · intro H' s' eD
      exact q D H' s' hD eD
    · rintro σ H' Q1 Q2 hq ⟨v, e, v', e', a1, a2, a3, a4, a5, a6, a7, a8, g⟩
      exact ⟨v, e, v', e', a1, a2, a3, a4, a5, a6, a7, a8, hq _ _ g⟩
/-! ### columns_of -/
def colsV (X : List (List V)) (n : Nat) : List (List V) := (List.range n).map fun j => X.map fun x => (x[j]?).getD .non
def spCols : Sp := fun vs H Q _ => ∃ (a : Addr) (X : List (List V)) (n : Nat), vs = [.ref a] ∧ GrdAt H a X ∧ X.length ≤ 900 ∧ n ≤ 900 ∧ (∀ x ∈ X, x.length = n) ∧ (X = [] → n = 0) ∧ ∀ D H', Same H H' → H D = none → GrdAt H' D (colsV X n) → Q (.ref D) H'
theorem scCols : FnScope ["rows", "width"] ["rows"] (defScope sCols) := ⟨rfl, rfl, rfl, by decide +kernel, rfl, by decide +kernel, by decide +kernel⟩
theorem lcCols : LcScopes (defScope sCols) ["rows", "width"] (lcScope (asgVal (bodyAt sCols 1))) ["place"] := ⟨by decide +kernel, rfl, by decide +kernel, by decide +kernel, by decide +kernel, by decide +kernel, by decide +kernel, by decide +kernel, by decide +kernel, by decide +kernel⟩
theorem ok_cols {f fC : Addr} {fd fdC : FuncData} (B : BltR mg) (F : Fun K "columns_of" "columns_of" sCols f fd) (DC : Dn K mg "column_of" sCol ["rows", "place"] fC fdC) (GC : FnOk P w K mg base CX0 1 fC fdC ["rows", "place"] spCol) : FnOk P w K mg base CX0 2 f fd ["rows"] spCols := by
  refine F.ok scCols (fun vs H Q E h => ?_) (fun cdv A outer s H vs Q E hr h => ?_)
  · obtain ⟨a, X, n, rfl, _⟩ := h
    rfl
  · obtain ⟨a, X, n, rfl, ⟨rs, ha, R⟩, hX, hn, hw, h0, q⟩ := h
    refine ⟨_, pss_mid (ps_set (i := 1) scCols.nd rfl (Or.inl rfl) (pe_ifExp (pt_truth (pv 0) (fun _ => rfl)) (pe_callB call_len_seq (by rfl) B.len PySem.boot_len (pa_cons (pe_ix ix_list (pv 0) pe_int (fun _ _ => rfl)) pa_nil)) pe_int))
      (pss_one (ps_ret (pe_lc1 rfl lcCols rfl (pi_range1 rfl B.range (pa_cons (pv 1) pa_nil)) (fun _ _ _ => pe_fn DC GC hr rfl (pa_cons (pv 0) (pa_cons (pv 2) pa_nil)))))), ?_⟩
    refine ⟨fun σ H1 => σ = [some (.ref a), some (.int (n : Int))] ∧ H1 = H, ?_, ?_⟩
    · refine ⟨_, rfl, !(rs.map V.ref).isEmpty, .inl ⟨_, SqL.of ha, rfl⟩, ?_⟩
      have lr := R.len
      match rs, X, lr with
      | [], [], _ =>
        refine iteF ⟨?_, rfl⟩
        rw [h0 rfl]
        rfl
      | r :: rs, x :: X, _ =>
        refine iteT ?_
        refine ⟨_, rfl, a, _, _, .ref r, rfl, rfl, SqL.of ha, atI_nat (j := 0) rfl, r, _, rfl, .inl (SqL.of (R.row 0 r x rfl rfl)), ?_, rfl⟩
        rw [hw x List.mem_cons_self]
        rfl
    · rintro σ H1 ⟨rfl, rfl⟩
      refine ⟨_, rfl, (n : Int), rfl, by omega, by omega, fun D hD => ?_⟩
      rw [Int.toNat_natCast]
      have lc : (colsV X n).length = n := by unfold colsV; rw [List.length_map, List.length_range]
      refine lc_range (n := n) (GrdI H1 D (colsV X n)) (GrdI.start hD) (fun i ys H' _ ⟨_, _, _, _, eD, _⟩ => eD) ?_ ?_ ?_
      · rintro i ys H' hi g
        have e0 : ((0 : Int) + (i : Nat)) = (i : Int) := by omega
        rw [e0]
        have s' : Same H1 H' := let ⟨_, _, _, z, _⟩ := g; z
        refine ⟨_, rfl, _, rfl, a, X, i, rfl, ⟨rs, s' _ _ ha, R.mono s'⟩, hX, fun x hx => by rw [hw x hx]; exact hi, fun p H3 s3 np ep => ?_⟩
        refine g.step hD ?_ ⟨p, rfl, ep, np⟩ s3 (by omega)
        unfold colsV
        rw [List.getElem?_map, List.getElem?_range hi]
        rfl
      · intro ys H' g
        obtain ⟨s', gg⟩ := GrdI.done (X := colsV X n) (by rw [lc]; exact g)
        exact q D H' s' hD gg
      · rintro σ H' Q1 Q2 hq ⟨v, e, v', e', a1, a2, a3, a4, a5, a6, a7, g⟩
        exact ⟨v, e, v', e', a1, a2, a3, a4, a5, a6, a7, fun D H3 s3 n3 e3 => hq _ _ (g D H3 s3 n3 e3)⟩
/-! ### in_one_list -/
def spInOne : Sp := fun vs H Q _ => ∃ (a : Addr) (X : List (List V)), vs = [.ref a] ∧ GrdAt H a X ∧ X.flatten.length ≤ 900 ∧ ∀ D H', Same H H' → H D = none → H' D = some (.lst X.flatten) → Q (.ref D) H'
theorem scInOne : FnScope ["rows", "things", "row"] ["rows"] (defScope sInOne) := ⟨rfl, rfl, rfl, by decide +kernel, rfl, by decide +kernel, by decide +kernel⟩
theorem flat_take {X : List (List V)} {i : Nat} {x : List V} (h : X[i]? = some x) : (X.take (i + 1)).flatten = (X.take i).flatten ++ x := by
  rw [take_snoc h, List.flatten_append]
  simp
theorem flat_le (X : List (List V)) (i : Nat) : (X.take i).flatten.length ≤ X.flatten.length := by
  have := congrArg (fun l => (List.flatten l).length) (List.take_append_drop i X)
  simp only [List.flatten_append, List.length_append] at this
  omega
theorem ok_inOne {f : Addr} {fd : FuncData} (F : Fun K "in_one_list" "in_one_list" sInOne f fd) : FnOk P w K mg base CX0 1 f fd ["rows"] spInOne := by
  refine F.ok scInOne (fun vs H Q E h => ?_) (fun cdv A outer s H vs Q E hr h => ?_)
  · obtain ⟨a, X, rfl, _⟩ := h
    rfl
  · obtain ⟨a, X, rfl, ⟨rs, ha, R⟩, hX, q⟩ := h
    refine ⟨_, pss_cons (ps_set (i := 1) scInOne.nd rfl (Or.inl rfl) (pe_lst pa_nil))
      (pss_cons (ps_for PassesOwn.never rfl (pi_list (pv 0)) (pg_name (i := 2) scInOne.nd rfl (Or.inl rfl))
        (pss_one (ps_expr (pe_bm PySem.F.plainAttrs_list PySem.F.slot_list_extend PySem.F.type_list_extend mt_extend (pv 1) (pa_cons (pv 2) pa_nil)))))
      (pss_one (ps_ret (pv 1)))), ?_⟩
    refine ⟨Nat.zero_le _, fun D hD => ?_⟩
    have aD : a ≠ D := ne_of_none ha hD
    refine ⟨_, rfl, a, rfl, ⟨_, SqL.of (by rw [upd_ne aD]; exact ha)⟩, for_list (xs := rs.map V.ref) (fun i σ H' => ∃ (o2 : Option V), σ = [some (.ref a), some (.ref D), o2] ∧ Same H H' ∧ H' D = some (.lst (X.take i).flatten)) ⟨none, rfl, Same.upd hD, by rw [upd_same]; rfl⟩ (fun i σ H' _ ⟨_, _, s', _⟩ => SqL.of (s' _ _ ha)) ?_ ?_⟩
    · rintro i x σ H1 hx ⟨o2, rfl, s1, e1⟩
      obtain ⟨r, hr, rfl⟩ := map_get hx
      obtain ⟨y, hy⟩ := get_lt (l := X) (i := i) (by rw [← R.len]; exact lt_get hr)
      have er := s1 _ _ (R.row i r y hr hy)
      have fl := flat_le X (i + 1)
      rw [flat_take hy, List.length_append] at fl
      refine ⟨_, rfl, .inl ⟨rfl, _, SqL.of e1⟩, _, rfl, ?_⟩
      refine ⟨D, r, _, _, rfl, rfl, e1, er, Nat.le_of_lt (small1000 (by omega)), ?_⟩
      refine ⟨_, rfl, fun b o e => ?_, ?_⟩
      · rw [upd_ne (ne_of_none e hD)]
        exact s1 _ _ e
      · rw [upd_same, flat_take hy]
    · rintro σ H1 ⟨o2, rfl, s1, e1⟩
      rw [List.length_map, R.len, List.take_length] at e1
      exact ⟨_, rfl, q D H1 s1 hD e1⟩
/-! ### in_square -/
def squareV (xs : List V) (n : Nat) : List (List V) := (List.range n).map fun i => (xs.drop (n * i)).take n
def spInSq (K : PySem.W.Frag) : Sp := fun vs H Q _ => ∃ (a : Addr) (xs : List V) (n : Nat), vs = [.ref a, .int (n : Int)] ∧ SqL K H a xs ∧ xs.length = n * n ∧ n ≤ 16 ∧ ∀ D H', Same H H' → H D = none → GrdAt H' D (squareV xs n) → Q (.ref D) H'
theorem scInSq : FnScope ["things", "size"] ["things", "size"] (defScope sInSq) := ⟨rfl, rfl, rfl, by decide +kernel, rfl, by decide +kernel, by decide +kernel⟩
theorem lcInSq : LcScopes (defScope sInSq) ["things", "size"] (lcScope (asgVal (bodyAt sInSq 0))) ["place"] := ⟨by decide +kernel, rfl, by decide +kernel, by decide +kernel, by decide +kernel, by decide +kernel, by decide +kernel, by decide +kernel, by decide +kernel, by decide +kernel⟩
theorem cut_sq {xs : List V} {n i : Nat} (hx : xs.length = n * n) (hi : i < n) : cutV xs (some ((n : Int) * (i : Int))) (some ((n : Int) * ((i : Int) + 1))) = (xs.drop (n * i)).take n := by
  have h1 : n * (i + 1) ≤ n * n := Nat.mul_le_mul_left n hi
  have e1 : (n : Int) * (i : Int) = ((n * i : Nat) : Int) := by push_cast; rfl
  have e2 : (n : Int) * ((i : Int) + 1) = ((n * (i + 1) : Nat) : Int) := by push_cast; rfl
  have h2 : n * (i + 1) = n * i + n := Nat.mul_succ n i
  unfold cutV
  rw [e1, e2, HT.sIx_nat, HT.sIx_nat, hx, Nat.min_eq_left h1, Nat.min_eq_left (show n * i ≤ n * n by omega)]
  congr 1
  omega
theorem sl_listK {X : Cx} (h : X.K = K := by rfl) : SlR X (rSlL K) := by subst h; exact sl_list
theorem ok_inSq {f : Addr} {fd : FuncData} (B : BltR mg) (F : Fun K "in_square" "in_square" sInSq f fd) : FnOk P w K mg base CX0 1 f fd ["things", "size"] (spInSq K) := by
  refine F.ok scInSq (fun vs H Q E h => ?_) (fun cdv A outer s H vs Q E hr h => ?_)
  · obtain ⟨a, xs, n, rfl, _⟩ := h
    rfl
  · obtain ⟨a, xs, n, rfl, ha, hx, hn, q⟩ := h
    refine ⟨_, pss_one (ps_ret (pe_lc1 rfl lcInSq rfl (pi_range1 rfl B.range (pa_cons (pv 1) pa_nil)) (fun _ _ _ => pe_slice (sl_listK (K := K)) (pv 0) (po_some (pe_op op_mul (pv 1) (pv 2))) (po_some (pe_op op_mul (pv 1) (pe_op op_add (pv 2) pe_int)))))), ?_⟩
    refine ⟨_, rfl, (n : Int), rfl, by omega, by omega, fun D hD => ?_⟩
    rw [Int.toNat_natCast]
    have lc : (squareV xs n).length = n := by unfold squareV; rw [List.length_map, List.length_range]
    refine lc_range (n := n) (GrdI H D (squareV xs n)) (GrdI.start hD) (fun i ys H' _ ⟨_, _, _, _, eD, _⟩ => eD) ?_ ?_ ?_
    · rintro i ys H' hi g
      have e0 : ((0 : Int) + (i : Nat)) = (i : Int) := by omega
      rw [e0]
      have s' : Same H H' := let ⟨_, _, _, z, _⟩ := g; z
      refine ⟨_, rfl, _, rfl, _, rfl, _, _, rfl, rfl, cmul_l (by omega) (by omega), _, rfl, _, rfl, _, rfl, _, _, rfl, rfl, _, _, rfl, rfl, cmul_l (by omega) (by omega), _, rfl, a, xs, rfl, s'.seq ha, fun p hp => ?_⟩
      have st := g.step (u := .ref p) (x := (xs.drop (n * i)).take n) hD (by unfold squareV; rw [List.getElem?_map, List.getElem?_range hi]; rfl) ⟨p, rfl, upd_same, hp⟩ (Same.upd hp) (by omega)
      rw [← cut_sq hx hi] at st
      exact st
    · intro ys H' g
      obtain ⟨s', gg⟩ := GrdI.done (X := squareV xs n) (by rw [lc]; exact g)
      exact q D H' s' hD gg
    · rintro σ H' Q1 Q2 hq ⟨v1, e1, v2, e2, v3, e3, i1, j1, f1, f2, c1, l1, e4, v5, e5, v6, e6, i2, j2, f3, f4, i3, j3, f5, f6, c2, h1, e7, a1, x1, e8, q1, g⟩
      exact ⟨v1, e1, v2, e2, v3, e3, i1, j1, f1, f2, c1, l1, e4, v5, e5, v6, e6, i2, j2, f3, f4, i3, j3, f5, f6, c2, h1, e7, a1, x1, e8, q1, fun p hp => hq _ _ (g p hp)⟩
end

/-! THE PROGRAM'S GRIDS OF INTS: sums_with_each, product_of_grids -/
section
variable {P : Program} {w : World} {K : PySem.W.Frag} {mg : Str → Option Value} {base : Heap}
def gI (M : List (List Int)) : List (List V) := M.map fun x => x.map V.int
theorem gI_get {M : List (List Int)} {i : Nat} {x : List Int} (h : M[i]? = some x) : (gI M)[i]? = some (x.map V.int) := by unfold gI; rw [List.getElem?_map, h]; rfl
theorem gI_len (M : List (List Int)) : (gI M).length = M.length := by unfold gI; rw [List.length_map]
open TM in
def spDot : Sp := fun vs H Q _ => ∃ (a b : Addr) (ws rs : List Int) (n : Nat), vs = [.ref a, .ref b] ∧ H a = some (.lst (ws.map V.int)) ∧ H b = some (.lst (rs.map V.int)) ∧ ws.length = rs.length ∧ ws.length ≤ 900 ∧ n ≤ 1000000 ∧ (∀ x ∈ ws, M11.Bn n x) ∧ (∀ x ∈ rs, M11.Bn n x) ∧ ∀ H', Same H H' → Q (.int (dot ws rs)) H'
theorem scDot : FnScope ["numbers", "others"] ["numbers", "others"] (defScope sDot) := ⟨rfl, rfl, rfl, by decide +kernel, rfl, by decide +kernel, by decide +kernel⟩
def argAt (e : Expr) (i : Nat) : Expr := match e with
  | .Call _ es _ _ => es.getD i (.Constant .none 0 ⟨0, 0, 0, 0⟩)
  | .BinOp _ _ b _ => b
  | _ => .Constant .none 0 ⟨0, 0, 0, 0⟩
theorem lcDot : LcScopes (defScope sDot) ["numbers", "others"] (lcScope (argAt (asgVal (bodyAt sDot 0)) 0)) ["number", "other"] := ⟨by decide +kernel, rfl, by decide +kernel, by decide +kernel, by decide +kernel, by decide +kernel, by decide +kernel, by decide +kernel, by decide +kernel, by decide +kernel⟩
theorem boot_sum : bootBuiltins "sum" = some (.builtin "sum") := by decide +kernel
theorem zip_get {f : Int → Int → Int} {a b : List Int} {i : Nat} {x y : Int} (hx : a[i]? = some x) (hy : b[i]? = some y) : (List.zipWith f a b)[i]? = some (f x y) := by
  rw [List.getElem?_zipWith, hx, hy]
theorem ok_dot {f : Addr} {fd : FuncData} (B : BltR mg) (F : Fun K "sum_of_products" "sum_of_products" sDot f fd) : FnOk P w K mg base CX0 1 f fd ["numbers", "others"] spDot := by
  refine F.ok scDot (fun vs H Q E h => ?_) (fun cdv A outer s H vs Q E hr h => ?_)
  · obtain ⟨a, b, ws, rs, n, rfl, _⟩ := h
    rfl
  · obtain ⟨a, b, ws, rs, n, rfl, ha, hb, hl, hm, hn, hw, hr', q⟩ := h
    refine ⟨_, pss_one (ps_ret (pe_callB (call_sum rfl) (by rfl) B.sum boot_sum (pa_cons (pe_lcs rfl lcDot rfl (pi_zip rfl B.zip (pa_cons (pv 0) (pa_cons (pv 1) pa_nil))) (pg_two rfl lcDot) (fun _ _ _ => pts_nil) (fun _ _ _ => pe_op op_mulN (pv 2) (pv 3))) pa_nil))), ?_⟩
    refine ⟨_, rfl, _, rfl, a, b, rfl, ⟨_, SqL.of ha⟩, ⟨_, SqL.of hb⟩, ?_⟩
    refine lc_zip ((List.zipWith (fun x y => x * y) ws rs).map V.int) rfl (SqL.of ha) (SqL.of hb) (by rw [List.length_map, List.length_map, List.length_zipWith]; omega) (by rw [List.length_map, List.length_map, List.length_zipWith]; omega) (by rw [List.length_map, List.length_zipWith]; omega) ?_ ?_ ?_
    · intro i x y v H' hx hy hv s'
      obtain ⟨x, ex, rfl⟩ := map_get hx
      obtain ⟨y, ey, rfl⟩ := map_get hy
      obtain ⟨z, ez, rfl⟩ := map_get hv
      rw [zip_get ex ey] at ez
      cases ez
      exact ⟨_, rfl, _, rfl, _, _, rfl, rfl, ⟨n, hn, hw x (List.mem_of_getElem? ex), hr' y (List.mem_of_getElem? ey)⟩, rfl, Same.refl _⟩
    · intro D H' s' eD
      exact ⟨D, _, rfl, SqL.of eD, q H' s'⟩
    · rintro σ H' Q1 Q2 hq ⟨v, e, v', e', i, j, a1, a2, a3, g⟩
      exact ⟨v, e, v', e', i, j, a1, a2, a3, hq _ _ g⟩
theorem dot_comm : ∀ a b : List Int, TM.dot a b = TM.dot b a := by
  intro a b
  unfold TM.dot
  rw [List.zipWith_comm]
  congr 1
  funext
  simp only [Int.mul_comm]
theorem scEach : FnScope ["numbers", "rows"] ["numbers", "rows"] (defScope sEach) := ⟨rfl, rfl, rfl, by decide +kernel, rfl, by decide +kernel, by decide +kernel⟩
theorem lcEach : LcScopes (defScope sEach) ["numbers", "rows"] (lcScope (asgVal (bodyAt sEach 0))) ["row"] := ⟨by decide +kernel, rfl, by decide +kernel, by decide +kernel, by decide +kernel, by decide +kernel, by decide +kernel, by decide +kernel, by decide +kernel, by decide +kernel⟩
open TM in
def spEachG : Sp := fun vs H Q _ => ∃ (a l : Addr) (M : List (List Int)) (r : List Int) (n : Nat), vs = [.ref l, .ref a] ∧ GrdAt H a (gI M) ∧ H l = some (.lst (r.map V.int)) ∧ M.length ≤ 900 ∧ r.length ≤ 900 ∧ n ≤ 1000000 ∧ (∀ x ∈ M, x.length = r.length ∧ ∀ z ∈ x, M11.Bn n z) ∧ (∀ x ∈ r, M11.Bn n x) ∧
  ∀ D H', Same H H' → H D = none → H' D = some (.lst ((M.map fun w => dot w r).map V.int)) → Q (.ref D) H'
theorem ok_eachG {f fD : Addr} {fd fdD : FuncData} (F : Fun K "sums_with_each" "sums_with_each" sEach f fd) (DD : Dn K mg "sum_of_products" sDot ["numbers", "others"] fD fdD) (GD : FnOk P w K mg base CX0 1 fD fdD ["numbers", "others"] spDot) : FnOk P w K mg base CX0 2 f fd ["numbers", "rows"] spEachG := by
  refine F.ok scEach (fun vs H Q E h => ?_) (fun cdv A outer s H vs Q E hr h => ?_)
  · obtain ⟨a, l, M, r, n, rfl, _⟩ := h
    rfl
  · obtain ⟨a, l, M, r, n, rfl, ⟨rs, ha, R⟩, hl, hM, hrl, hn, hw, hr', q⟩ := h
    have lr : rs.length = M.length := by rw [R.len, gI_len]
    refine ⟨_, pss_one (ps_ret (pe_lc1 rfl lcEach rfl (pi_list (pv 1)) (fun _ _ _ => pe_fn DD GD hr rfl (pa_cons (pv 0) (pa_cons (pv 2) pa_nil))))), ?_⟩
    refine ⟨_, rfl, a, rfl, ⟨_, SqL.of ha⟩, fun D hD => ?_⟩
    refine lc_vals ((M.map fun w => TM.dot w r).map V.int) (by rw [List.length_map, List.length_map, List.length_map, lr]) (by rw [List.length_map, lr]; omega) hD (SqL.of ha) ?_ ?_ ?_
    · intro i x v H' hx hv s'
      obtain ⟨ra, hra, rfl⟩ := map_get hx
      obtain ⟨z, hz, rfl⟩ := map_get hv
      obtain ⟨row, hrow, rfl⟩ := map_get hz
      have er := R.row i ra _ hra (gI_get hrow)
      obtain ⟨w1, w2⟩ := hw row (List.mem_of_getElem? hrow)
      rw [dot_comm row r]
      exact ⟨_, rfl, _, rfl, l, ra, r, row, n, rfl, s' _ _ hl, s' _ _ er, w1.symm, hrl, hn, hr', w2, fun H3 s3 => ⟨rfl, s3⟩⟩
    · intro H' s' eD
      exact q D H' s' hD eD
    · rintro σ H' Q1 Q2 hq ⟨v, e, v', e', a1, a2, a3, a4, a5, a6, a7, a8, a9, a10, a11, a12, a13, g⟩
      exact ⟨v, e, v', e', a1, a2, a3, a4, a5, a6, a7, a8, a9, a10, a11, a12, a13, fun H3 s3 => hq _ _ (g H3 s3)⟩
/-- the columns of n places each -/
def colsI (N : List (List Int)) (n : Nat) : List (List Int) := (List.range n).map fun j => N.map fun x => (x[j]?).getD 0
theorem cols_gI {N : List (List Int)} {n : Nat} (h : ∀ x ∈ N, x.length = n) : colsV (gI N) n = gI (colsI N n) := by
  unfold colsV colsI
  show _ = List.map (fun x : List Int => x.map V.int) _
  rw [List.map_map]
  refine List.map_congr_left fun j hj => ?_
  show ((gI N).map fun x => (x[j]?).getD .non) = (N.map fun x => (x[j]?).getD 0).map V.int
  unfold gI
  rw [List.map_map, List.map_map]
  refine List.map_congr_left fun x hx => ?_
  show ((x.map V.int)[j]?).getD .non = V.int ((x[j]?).getD 0)
  obtain ⟨z, hz⟩ := get_lt (l := x) (i := j) (by rw [h x hx]; exact List.mem_range.mp hj)
  rw [List.getElem?_map, hz]
  rfl
open TM in
def prodI (M N : List (List Int)) (n : Nat) : List (List Int) := M.map fun r => (colsI N n).map fun c => dot c r
def spProd : Sp := fun vs H Q _ => ∃ (a b : Addr) (M N : List (List Int)) (n k : Nat), vs = [.ref a, .ref b] ∧ GrdAt H a (gI M) ∧ GrdAt H b (gI N) ∧ M.length ≤ 900 ∧ N.length ≤ 900 ∧ n ≤ 900 ∧ k ≤ 1000000 ∧ (∀ x ∈ M, x.length = N.length ∧ ∀ z ∈ x, M11.Bn k z) ∧ (∀ x ∈ N, x.length = n ∧ ∀ z ∈ x, M11.Bn k z) ∧ (N = [] → n = 0) ∧
  ∀ D H', Same H H' → H D = none → GrdAt H' D (gI (prodI M N n)) → Q (.ref D) H'
theorem scProd : FnScope ["rows", "others", "columns"] ["rows", "others"] (defScope sProd) := ⟨rfl, rfl, rfl, by decide +kernel, rfl, by decide +kernel, by decide +kernel⟩
theorem lcProd : LcScopes (defScope sProd) ["rows", "others", "columns"] (lcScope (asgVal (bodyAt sProd 1))) ["row"] := ⟨by decide +kernel, rfl, by decide +kernel, by decide +kernel, by decide +kernel, by decide +kernel, by decide +kernel, by decide +kernel, by decide +kernel, by decide +kernel⟩
theorem ok_prod {f fC fE : Addr} {fd fdC fdE : FuncData} (F : Fun K "product_of_grids" "product_of_grids" sProd f fd) (DC : Dn K mg "columns_of" sCols ["rows"] fC fdC) (GC : FnOk P w K mg base CX0 2 fC fdC ["rows"] spCols)
    (DE : Dn K mg "sums_with_each" sEach ["numbers", "rows"] fE fdE) (GE : FnOk P w K mg base CX0 2 fE fdE ["numbers", "rows"] spEachG) : FnOk P w K mg base CX0 3 f fd ["rows", "others"] spProd := by
  refine F.ok scProd (fun vs H Q E h => ?_) (fun cdv A outer s H vs Q E hr h => ?_)
  · obtain ⟨a, b, M, N, n, k, rfl, _⟩ := h
    rfl
  · obtain ⟨a, b, M, N, n, k, rfl, ⟨rs, ha, R⟩, gb, hM, hN, hn, hk, hm, hN', h0, q⟩ := h
    have lr : rs.length = M.length := by rw [R.len, gI_len]
    refine ⟨_, pss_cons (ps_set (i := 2) scProd.nd rfl (Or.inr rfl) (pe_fn DC GC hr rfl (pa_cons (pv 1) pa_nil)))
      (pss_one (ps_ret (pe_lc1 rfl lcProd rfl (pi_list (pv 0)) (fun _ _ _ => pe_fn DE GE hr rfl (pa_cons (pv 3) (pa_cons (pv 2) pa_nil)))))), ?_⟩
    refine ⟨_, rfl, b, gI N, n, rfl, gb, by rw [gI_len]; exact hN, hn, fun x hx => ?_, fun z => h0 ?_, fun C H1 s1 nC gC => ?_⟩
    · obtain ⟨y, hy, rfl⟩ := List.mem_map.mp hx
      rw [List.length_map]
      exact (hN' y hy).1
    · exact List.map_eq_nil_iff.mp z
    rw [cols_gI fun x hx => (hN' x hx).1] at gC
    refine ⟨_, rfl, a, rfl, ⟨_, SqL.of (s1 _ _ ha)⟩, fun D hD => ?_⟩
    refine lc_list (xs := rs.map V.ref) (GrdI H1 D (gI (prodI M N n))) (GrdI.start hD) (fun i ys H' _ ⟨_, _, _, s', eD, _⟩ => ⟨SqL.of (s' _ _ (s1 _ _ ha)), eD⟩) ?_ ?_ ?_
    · rintro i x ys H' hx g
      obtain ⟨r, hr', rfl⟩ := map_get hx
      obtain ⟨row, hrow⟩ := get_lt (l := M) (i := i) (by rw [← lr]; exact lt_get hr')
      have s' : Same H1 H' := let ⟨_, _, _, z, _⟩ := g; z
      have er := (s1.trans s') _ _ (R.row i r _ hr' (gI_get hrow))
      obtain ⟨w1, w2⟩ := hm row (List.mem_of_getElem? hrow)
      refine ⟨_, rfl, _, rfl, C, r, colsI N n, row, k, rfl, gC.mono s', er, by unfold colsI; rw [List.length_map, List.length_range]; exact hn, by omega, hk, fun c hc => ?_, w2, fun p H3 s3 np ep => ?_⟩
      · unfold colsI at hc
        obtain ⟨j, hj, rfl⟩ := List.mem_map.mp hc
        refine ⟨by rw [List.length_map, w1], fun z hz => ?_⟩
        obtain ⟨y, hy, rfl⟩ := List.mem_map.mp hz
        obtain ⟨u, hu⟩ := get_lt (l := y) (i := j) (by rw [(hN' y hy).1]; exact List.mem_range.mp hj)
        show M11.Bn k ((y[j]?).getD 0)
        rw [hu]
        exact (hN' y hy).2 u (List.mem_of_getElem? hu)
      · refine g.step hD ?_ ⟨p, rfl, ep, np⟩ s3 (by have := lt_get hrow; omega)
        exact gI_get (by unfold prodI; rw [List.getElem?_map, hrow]; rfl)
    · intro ys H' g
      have ll : (rs.map V.ref).length = (gI (prodI M N n)).length := by rw [List.length_map, gI_len, lr]; unfold prodI; rw [List.length_map]
      rw [ll] at g
      obtain ⟨s', gg⟩ := g.done
      exact q D H' (s1.trans s') (s1.free hD) gg
    · rintro σ H' Q1 Q2 hq ⟨v, e, v', e', a1, a2, a3, a4, a5, a6, a7, a8, a9, a10, a11, a12, a13, g⟩
      exact ⟨v, e, v', e', a1, a2, a3, a4, a5, a6, a7, a8, a9, a10, a11, a12, a13, fun D H3 s3 n3 e3 => hq _ _ (g D H3 s3 n3 e3)⟩
end

/-! THE PROGRAM: values by their shape; shared_by_all, lowered, one_by_one_product, one_by_one_sum, many_times -/
section
variable {P : Program} {w : World} {K : PySem.W.Frag} {mg : Str → Option Value} {base : Heap}
theorem Bn.add {n : Nat} {x y : Int} (h : M11.Bn n x) (h' : M11.Bn n y) : M11.Bn (n + 1) (x + y) := by
  unfold M11.Bn at *
  have e : (2 : Nat) ^ (n + 1) = 2 ^ n + 2 ^ n := by rw [Nat.pow_succ]; omega
  omega
theorem Bn.zero (n : Nat) : M11.Bn n 0 := Nat.pow_pos (by decide)
theorem zip_all {p : Int → Prop} {f : Int → Int → Int} : ∀ {a b : List Int}, (∀ x ∈ a, ∀ y ∈ b, p (f x y)) → ∀ z ∈ List.zipWith f a b, p z
  | [], _, _, z, hz => by cases hz
  | _ :: _, [], _, z, hz => by cases hz
  | x :: a, y :: b, h, z, hz => by
    rw [List.zipWith_cons_cons] at hz
    rcases List.mem_cons.mp hz with rfl | hz
    · exact h x List.mem_cons_self y List.mem_cons_self
    · exact zip_all (fun x' hx y' hy => h x' (List.mem_cons_of_mem _ hx) y' (List.mem_cons_of_mem _ hy)) z hz
/-- n tops over one bottom, all below 2 ^ c -/
structure Sh (n c : Nat) (ts : List Int) (b : Int) : Prop where
  len : ts.length = n
  pos : 0 < b
  bot : M11.Bn c b
  tops : ∀ x ∈ ts, M11.Bn c x
theorem Sh.more {n c d : Nat} {ts : List Int} {b : Int} (S : Sh n c ts b) (h : c ≤ d) : Sh n d ts b := ⟨S.len, S.pos, S.bot.mono h, fun x hx => (S.tops x hx).mono h⟩
def VAt (H : Hp) (v : V) (n c : Nat) : Prop := ∃ p l ts b, v = .ref p ∧ H p = some (.tup [.ref l, .int b]) ∧ H l = some (.lst (ts.map V.int)) ∧ Sh n c ts b
theorem VAt.mono {H H' : Hp} {v : V} {n c : Nat} (h : VAt H v n c) (s : Same H H') : VAt H' v n c := by
  obtain ⟨p, l, ts, b, e, h1, h2, S⟩ := h
  exact ⟨p, l, ts, b, e, s _ _ h1, s _ _ h2, S⟩
theorem VAt.more {H : Hp} {v : V} {n c d : Nat} (h : VAt H v n c) (hc : c ≤ d) : VAt H v n d := by
  obtain ⟨p, l, ts, b, e, h1, h2, S⟩ := h
  exact ⟨p, l, ts, b, e, h1, h2, S.more hc⟩
theorem sh_lower {n c : Nat} {ts : List Int} {b : Int} (S : Sh n c ts b) : Sh n c (ts.map fun t => t.fdiv (M11.foldG b ts)) (b.fdiv (M11.foldG b ts)) := by
  obtain ⟨h1, h2⟩ := M11.lowerR_pos (ts := ts) S.pos
  refine ⟨by rw [List.length_map]; exact S.len, h1, S.bot.le ?_, fun x hx => ?_⟩
  · have h1' : 0 < b.fdiv (M11.foldG b ts) := h1
    have h2' : b.fdiv (M11.foldG b ts) ≤ b := h2
    omega
  · obtain ⟨t, ht, hl⟩ := M11.lowerR_le (ts := ts) S.pos x hx
    exact (S.tops t ht).le hl
/-! ### shared_by_all -/
def spAll : Sp := fun vs H Q _ => ∃ (l : Addr) (ts : List Int) (b : Int), vs = [.int b, .ref l] ∧ H l = some (.lst (ts.map V.int)) ∧ Q (.int (M11.foldG b ts)) H
theorem scAll : FnScope ["divisor", "tops", "top"] ["divisor", "tops"] (defScope sAll) := ⟨rfl, rfl, rfl, by decide +kernel, rfl, by decide +kernel, by decide +kernel⟩
theorem ok_all {f fG : Addr} {fd fdG : FuncData} (F : Fun K "shared_by_all" "shared_by_all" sAll f fd) (DG : Dn K mg "greatest_divisor" sGd ["number", "other"] fG fdG) (GG : FnOk P w K mg base CX0 1 fG fdG ["number", "other"] spG) : FnOk P w K mg base CX0 2 f fd ["divisor", "tops"] spAll := by
  refine F.ok scAll (fun vs H Q E h => ?_) (fun cdv A outer s H vs Q E hr h => ?_)
  · obtain ⟨l, ts, b, rfl, _⟩ := h
    rfl
  · obtain ⟨l, ts, b, rfl, hl, q⟩ := h
    refine ⟨_, pss_cons (ps_for PassesOwn.never rfl (pi_list (pv 1)) (pg_name (i := 2) scAll.nd rfl (Or.inl rfl))
        (pss_cons (ps_if (pt_cmpR op_eq (pv 0) pe_int (nomark _)) (pss_one (ps_ret pe_int)) pss_nil)
        (pss_one (ps_set (i := 0) scAll.nd rfl (Or.inl rfl) (pe_fn DG GG hr rfl (pa_cons (pv 0) (pa_cons (pv 2) pa_nil)))))))
      (pss_one (ps_ret (pv 0))), ?_⟩
    refine ⟨_, rfl, l, rfl, ⟨_, SqL.of hl⟩, for_list (xs := ts.map V.int) (fun i σ H' => ∃ (ot : Option V), σ = [some (.int (M11.foldG b (ts.take i))), some (.ref l), ot] ∧ H' = H) ⟨none, rfl, rfl⟩ (fun i σ H' _ ⟨_, _, e⟩ => by subst e; exact SqL.of hl) ?_ ?_⟩
    · rintro i x σ H1 hx ⟨ot, rfl, rfl⟩
      obtain ⟨t, ht, rfl⟩ := map_get hx
      refine ⟨_, rfl, rfl, _, rfl, ?_⟩
      by_cases h1 : M11.foldG b (ts.take i) = 1
      · refine itDP (by rw [h1]) ?_
        have e : M11.foldG b ts = 1 := by
          rw [← List.take_append_drop i ts, foldG_app, h1, M11.foldG_one]
        rw [e] at q
        exact q
      · refine itDN (fun z => h1 (V.int.inj z)) ?_
        refine ⟨_, rfl, _, rfl, _, t, rfl, ⟨some (.int t), ?_, rfl⟩⟩
        rw [take_snoc ht, foldG_app]
        rfl
    · rintro σ H1 ⟨ot, rfl, rfl⟩
      have et : ts.take (ts.map V.int).length = ts := by rw [List.length_map, List.take_length]
      rw [et]
      exact ⟨_, rfl, q⟩
/-! ### lowered -/
def spLowered : Sp := fun vs H Q _ => ∃ (l : Addr) (ts : List Int) (b : Int) (n c : Nat), vs = [.ref l, .int b] ∧ H l = some (.lst (ts.map V.int)) ∧ Sh n c ts b ∧ n ≤ 900 ∧ c ≤ 9000 ∧ ∀ v H', Same H H' → VAt H' v n c → Q v H'
abbrev nLowered : List Str := ["tops", "bottom", "divisor"]
theorem scLowered : FnScope nLowered ["tops", "bottom"] (defScope sLowered) := ⟨rfl, rfl, rfl, by decide +kernel, rfl, by decide +kernel, by decide +kernel⟩
theorem lcLowered : LcScopes (defScope sLowered) nLowered (lcScope (tupAt (asgVal (bodyAt sLowered 2)) 0)) ["top"] := ⟨by decide +kernel, rfl, by decide +kernel, by decide +kernel, by decide +kernel, by decide +kernel, by decide +kernel, by decide +kernel, by decide +kernel, by decide +kernel⟩
theorem ok_lowered {f fA : Addr} {fd fdA : FuncData} (F : Fun K "lowered" "lowered" sLowered f fd) (DA' : Dn K mg "shared_by_all" sAll ["divisor", "tops"] fA fdA) (GA : FnOk P w K mg base CX0 2 fA fdA ["divisor", "tops"] spAll) : FnOk P w K mg base CX0 3 f fd ["tops", "bottom"] spLowered := by
  refine F.ok scLowered (fun vs H Q E h => ?_) (fun cdv A outer s H vs Q E hr h => ?_)
  · obtain ⟨l, ts, b, n, c, rfl, _⟩ := h
    rfl
  · obtain ⟨l, ts, b, n, c, rfl, hl, S, hn, hc, q⟩ := h
    refine ⟨_, pss_cons (ps_set (i := 2) scLowered.nd rfl (Or.inr rfl) (pe_fn DA' GA hr rfl (pa_cons (pv 1) (pa_cons (pv 0) pa_nil))))
      (pss_cons (ps_if (pt_cmpR op_eq (pv 2) pe_int (nomark _)) (pss_one (ps_ret (pe_tup (pa_cons (pv 0) (pa_cons (pv 1) pa_nil))))) pss_nil)
      (pss_one (ps_ret (pe_tup (pa_cons (pe_lc1 rfl lcLowered rfl (pi_list (pv 0)) (fun _ _ _ => pe_op op_fdivL (pv 3) (pv 2))) (pa_cons (pe_op op_fdivL (pv 1) (pv 2)) pa_nil)))))), ?_⟩
    refine ⟨_, rfl, _, rfl, l, ts, b, rfl, hl, ?_⟩
    refine ⟨_, rfl, rfl, _, rfl, ?_⟩
    by_cases h1 : M11.foldG b ts = 1
    · refine itDP (by rw [h1]) ?_
      exact ⟨_, rfl, _, rfl, (by show 2 ≤ sizeLine; decide), fun p hp => q _ _ (Same.upd hp) ⟨p, l, ts, b, rfl, upd_same, by rw [upd_ne (ne_of_none hl hp)]; exact hl, S⟩⟩
    · refine itDN (fun z => h1 (V.int.inj z)) ?_
      obtain ⟨g1, g2, g3⟩ := M11.foldG_spec ts b S.pos
      have g4 := foldG_le S.pos ts
      have g5 : b.natAbs < 2 ^ 9000 := S.bot.mono hc
      have cd : ∀ u, CDivL u (M11.foldG b ts) := fun u => ⟨by omega, Nat.lt_of_le_of_lt g4 g5⟩
      refine ⟨_, rfl, l, rfl, ⟨_, SqL.of hl⟩, fun D hD => ?_⟩
      refine lc_vals (ts.map fun t => V.int (t.fdiv (M11.foldG b ts))) (by rw [List.length_map, List.length_map]) (by rw [List.length_map, S.len]; exact hn) hD (SqL.of hl) ?_ ?_ ?_
      · intro i x v H' hx hv s'
        obtain ⟨t, ht, rfl⟩ := map_get hx
        obtain ⟨t', ht', rfl⟩ := map_get hv
        rw [ht] at ht'
        cases ht'
        exact ⟨_, rfl, _, rfl, _, _, rfl, rfl, cd _, rfl, Same.refl _⟩
      · intro H' s' eD
        refine ⟨_, rfl, _, rfl, _, _, rfl, rfl, cd _, (by show 2 ≤ sizeLine; decide), fun p hp => ?_⟩
        refine q _ _ (s'.trans (Same.upd hp)) ⟨p, D, _, _, rfl, upd_same, ?_, sh_lower S⟩
        rw [upd_ne (ne_of_none eD hp), eD, List.map_map]
        rfl
      · rintro σ H' Q1 Q2 hq ⟨v, e, v', e', i, j, a1, a2, a3, g⟩
        exact ⟨v, e, v', e', i, j, a1, a2, a3, hq _ _ g⟩
/-! ### one_by_one_product, one_by_one_sum -/
def sp2R : Sp := fun vs H Q _ => ∃ (v u : V) (n c : Nat), vs = [v, u] ∧ VAt H v n c ∧ VAt H u n c ∧ n ≤ 900 ∧ 2 * c + 1 ≤ 9000 ∧ ∀ z H', Same H H' → VAt H' z n (2 * c + 1) → Q z H'
abbrev n2R : List Str := ["value", "other", "tops"]
theorem sh_both {n c : Nat} {ts us : List Int} {b d : Int} (S : Sh n c ts b) (T : Sh n c us d) : Sh n (2 * c + 1) (List.zipWith (fun x y => x * y) ts us) (b * d) := by
  refine ⟨by rw [List.length_zipWith, S.len, T.len, Nat.min_self], Int.mul_pos S.pos T.pos, (S.bot.mul T.bot).mono (by omega), zip_all fun x hx y hy => ((S.tops x hx).mul (T.tops y hy)).mono (by omega)⟩
theorem sh_plus {n c : Nat} {ts us : List Int} {b d : Int} (S : Sh n c ts b) (T : Sh n c us d) : Sh n (2 * c + 1) (List.zipWith (fun x y => x * d + y * b) ts us) (b * d) := by
  refine ⟨by rw [List.length_zipWith, S.len, T.len, Nat.min_self], Int.mul_pos S.pos T.pos, (S.bot.mul T.bot).mono (by omega), zip_all fun x hx y hy => ((Bn.add ((S.tops x hx).mul T.bot) ((T.tops y hy).mul S.bot))).mono (by omega)⟩
theorem scBoth : FnScope n2R ["value", "other"] (defScope sBothRow) := ⟨rfl, rfl, rfl, by decide +kernel, rfl, by decide +kernel, by decide +kernel⟩
theorem lcBoth : LcScopes (defScope sBothRow) n2R (lcScope (asgVal (bodyAt sBothRow 0))) ["top", "other_top"] := ⟨by decide +kernel, rfl, by decide +kernel, by decide +kernel, by decide +kernel, by decide +kernel, by decide +kernel, by decide +kernel, by decide +kernel, by decide +kernel⟩
theorem mulN {c : Nat} {x y : Int} (hc : 2 * c + 1 ≤ 9000) (hx : M11.Bn c x) (hy : M11.Bn c y) : CMulN x y := ⟨c, by omega, hx, hy⟩
theorem ok_both {f fL : Addr} {fd fdL : FuncData} (B : BltR mg) (F : Fun K "one_by_one_product" "one_by_one_product" sBothRow f fd) (DL : Dn K mg "lowered" sLowered ["tops", "bottom"] fL fdL) (GL : FnOk P w K mg base CX0 3 fL fdL ["tops", "bottom"] spLowered) : FnOk P w K mg base CX0 4 f fd ["value", "other"] sp2R := by
  refine F.ok scBoth (fun vs H Q E h => ?_) (fun cdv A outer s H vs Q E hr h => ?_)
  · obtain ⟨v, u, n, c, rfl, _⟩ := h
    rfl
  · obtain ⟨v, u, n, c, rfl, ⟨p, l, ts, b, rfl, hp, hl, S⟩, ⟨p', l', us, d, rfl, hp', hl', T⟩, hn, hc, q⟩ := h
    have n1 := S.len
    have n2 := T.len
    refine ⟨_, pss_cons (ps_setLcs (i := 2) scBoth.nd rfl (Or.inl rfl) rfl lcBoth rfl (pi_zip rfl B.zip (pa_cons (pe_ix ix_tup (pv 0) pe_int (fun _ _ => rfl)) (pa_cons (pe_ix ix_tup (pv 1) pe_int (fun _ _ => rfl)) pa_nil))) (pg_two rfl lcBoth) (fun _ _ _ => pts_nil) (fun _ _ _ => pe_op op_mulN (pv 3) (pv 4)))
      (pss_one (ps_ret (pe_fn DL GL hr rfl (pa_cons (pv 2) (pa_cons (pe_op op_mulN (pe_ix ix_tup (pv 0) pe_int (fun _ _ => rfl)) (pe_ix ix_tup (pv 1) pe_int (fun _ _ => rfl))) pa_nil))))), ?_⟩
    refine ⟨_, rfl, p, _, _, _, rfl, rfl, SqT.of hp, rfl, _, rfl, p', _, _, _, rfl, rfl, SqT.of hp', rfl, l, l', rfl, ⟨_, SqL.of hl⟩, ⟨_, SqL.of hl'⟩, ?_⟩
    refine lc_zip ((List.zipWith (fun x y => x * y) ts us).map V.int) rfl (SqL.of hl) (SqL.of hl') (by rw [List.length_map, List.length_map, List.length_zipWith]; omega) (by rw [List.length_map, List.length_map, List.length_zipWith]; omega) (by rw [List.length_map, List.length_zipWith]; omega) ?_ ?_ ?_
    · intro i x y v H' hx hy hv s'
      obtain ⟨x, ex, rfl⟩ := map_get hx
      obtain ⟨y, ey, rfl⟩ := map_get hy
      obtain ⟨z, ez, rfl⟩ := map_get hv
      rw [zip_get ex ey] at ez
      cases ez
      exact ⟨_, rfl, _, rfl, _, _, rfl, rfl, mulN hc (S.tops x (List.mem_of_getElem? ex)) (T.tops y (List.mem_of_getElem? ey)), rfl, Same.refl _⟩
    · intro D H' s' eD
      refine ⟨_, rfl, _, rfl, p, _, _, _, rfl, rfl, SqT.of (s' _ _ hp), rfl, _, rfl, p', _, _, _, rfl, rfl, SqT.of (s' _ _ hp'), rfl, _, _, rfl, rfl, mulN hc S.bot T.bot, D, _, _, n, _, rfl, eD, sh_both S T, hn, hc, fun z H'' s'' rz => q z H'' (s'.trans s'') rz⟩
    · rintro σ H' Q1 Q2 hq ⟨v, e, v', e', i, j, a1, a2, a3, g⟩
      exact ⟨v, e, v', e', i, j, a1, a2, a3, hq _ _ g⟩
theorem scPlusR : FnScope n2R ["value", "other"] (defScope sPlusRow) := ⟨rfl, rfl, rfl, by decide +kernel, rfl, by decide +kernel, by decide +kernel⟩
theorem lcPlusR : LcScopes (defScope sPlusRow) n2R (lcScope (asgVal (bodyAt sPlusRow 0))) ["top", "other_top"] := ⟨by decide +kernel, rfl, by decide +kernel, by decide +kernel, by decide +kernel, by decide +kernel, by decide +kernel, by decide +kernel, by decide +kernel, by decide +kernel⟩
theorem ok_plusR {f fL : Addr} {fd fdL : FuncData} (B : BltR mg) (F : Fun K "one_by_one_sum" "one_by_one_sum" sPlusRow f fd) (DL : Dn K mg "lowered" sLowered ["tops", "bottom"] fL fdL) (GL : FnOk P w K mg base CX0 3 fL fdL ["tops", "bottom"] spLowered) : FnOk P w K mg base CX0 4 f fd ["value", "other"] sp2R := by
  refine F.ok scPlusR (fun vs H Q E h => ?_) (fun cdv A outer s H vs Q E hr h => ?_)
  · obtain ⟨v, u, n, c, rfl, _⟩ := h
    rfl
  · obtain ⟨v, u, n, c, rfl, ⟨p, l, ts, b, rfl, hp, hl, S⟩, ⟨p', l', us, d, rfl, hp', hl', T⟩, hn, hc, q⟩ := h
    have n1 := S.len
    have n2 := T.len
    refine ⟨_, pss_cons (ps_setLcs (i := 2) scPlusR.nd rfl (Or.inl rfl) rfl lcPlusR rfl (pi_zip rfl B.zip (pa_cons (pe_ix ix_tup (pv 0) pe_int (fun _ _ => rfl)) (pa_cons (pe_ix ix_tup (pv 1) pe_int (fun _ _ => rfl)) pa_nil))) (pg_two rfl lcPlusR) (fun _ _ _ => pts_nil)
        (fun _ _ _ => pe_op op_add (pe_op op_mulN (pv 3) (pe_ix (ix_tupK (K := K)) (pv 1) pe_int (fun _ _ => rfl))) (pe_op op_mulN (pv 4) (pe_ix (ix_tupK (K := K)) (pv 0) pe_int (fun _ _ => rfl)))))
      (pss_one (ps_ret (pe_fn DL GL hr rfl (pa_cons (pv 2) (pa_cons (pe_op op_mulN (pe_ix ix_tup (pv 0) pe_int (fun _ _ => rfl)) (pe_ix ix_tup (pv 1) pe_int (fun _ _ => rfl))) pa_nil))))), ?_⟩
    refine ⟨_, rfl, p, _, _, _, rfl, rfl, SqT.of hp, rfl, _, rfl, p', _, _, _, rfl, rfl, SqT.of hp', rfl, l, l', rfl, ⟨_, SqL.of hl⟩, ⟨_, SqL.of hl'⟩, ?_⟩
    refine lc_zip ((List.zipWith (fun x y => x * d + y * b) ts us).map V.int) rfl (SqL.of hl) (SqL.of hl') (by rw [List.length_map, List.length_map, List.length_zipWith]; omega) (by rw [List.length_map, List.length_map, List.length_zipWith]; omega) (by rw [List.length_map, List.length_zipWith]; omega) ?_ ?_ ?_
    · intro i x y v H' hx hy hv s'
      obtain ⟨x, ex, rfl⟩ := map_get hx
      obtain ⟨y, ey, rfl⟩ := map_get hy
      obtain ⟨z, ez, rfl⟩ := map_get hv
      rw [zip_get ex ey] at ez
      cases ez
      refine ⟨_, rfl, _, rfl, p', _, _, _, rfl, rfl, SqT.of (s' _ _ hp'), rfl, _, _, rfl, rfl, mulN hc (S.tops x (List.mem_of_getElem? ex)) T.bot, ?_⟩
      exact ⟨_, rfl, _, rfl, p, _, _, _, rfl, rfl, SqT.of (s' _ _ hp), rfl, _, _, rfl, rfl, mulN hc (T.tops y (List.mem_of_getElem? ey)) S.bot, _, _, rfl, rfl, rfl, Same.refl _⟩
    · intro D H' s' eD
      refine ⟨_, rfl, _, rfl, p, _, _, _, rfl, rfl, SqT.of (s' _ _ hp), rfl, _, rfl, p', _, _, _, rfl, rfl, SqT.of (s' _ _ hp'), rfl, _, _, rfl, rfl, mulN hc S.bot T.bot, D, _, _, n, _, rfl, eD, sh_plus S T, hn, hc, fun z H'' s'' rz => q z H'' (s'.trans s'') rz⟩
    · rintro σ H' Q1 Q2 hq ⟨v, e, v1, e1, a1, a2, a3, a4, a5, a6, a7, a8, i, j, a9, a10, a11, v2, e2, v3, e3, c1, c2, c3, c4, c5, c6, c7, c8, i', j', c9, c10, c11, i2, j2, d1, d2, g⟩
      exact ⟨v, e, v1, e1, a1, a2, a3, a4, a5, a6, a7, a8, i, j, a9, a10, a11, v2, e2, v3, e3, c1, c2, c3, c4, c5, c6, c7, c8, i', j', c9, c10, c11, i2, j2, d1, d2, hq _ _ g⟩
/-! ### many_times: by a half -/
def spMany (K : PySem.W.Frag) : Sp := fun vs H Q _ => ∃ (fa : Addr) (v : V) (n c : Nat), vs = [.ref fa, v] ∧ SqT K H fa [.int 1, .int 2] ∧ VAt H v n c ∧ n ≤ 900 ∧ c + 1 ≤ 9000 ∧ ∀ z H', Same H H' → VAt H' z n (c + 1) → Q z H'
abbrev nMany : List Str := ["f", "value", "from_top", "from_bottom", "top", "bottom"]
theorem scMany : FnScope nMany ["f", "value"] (defScope sManyRow) := ⟨rfl, rfl, rfl, by decide +kernel, rfl, by decide +kernel, by decide +kernel⟩
theorem lcMany : LcScopes (defScope sManyRow) nMany (lcScope (tupAt (asgVal (bodyAt sManyRow 4)) 0)) ["number"] := ⟨by decide +kernel, rfl, by decide +kernel, by decide +kernel, by decide +kernel, by decide +kernel, by decide +kernel, by decide +kernel, by decide +kernel, by decide +kernel⟩
theorem G_one (b : Int) : M11.G 1 b = 1 := by unfold M11.G; rw [Int.one_gcd]; rfl
theorem fold_two (ts : List Int) : 0 < M11.foldG 2 ts ∧ M11.foldG 2 ts ≤ 2 ∧ ∀ t ∈ ts, M11.foldG 2 ts ∣ t := by
  obtain ⟨h1, h2, h3⟩ := M11.foldG_spec ts 2 (by decide)
  exact ⟨h1, Int.le_of_dvd (by decide) h2, h3⟩
theorem fdiv_le {g t : Int} (hg : 0 < g) (h : g ∣ t) : (t.fdiv g).natAbs ≤ t.natAbs := by
  obtain ⟨q, e1, e2⟩ := M11.fdiv_of_dvd hg h
  rw [e2, e1, Int.natAbs_mul]
  have : 1 ≤ g.natAbs := by omega
  calc q.natAbs = 1 * q.natAbs := by omega
    _ ≤ g.natAbs * q.natAbs := Nat.mul_le_mul_right _ this
theorem sh_many {n c : Nat} {ts : List Int} {b : Int} (S : Sh n c ts b) : Sh n (c + 1) (ts.map fun t => (1 : Int).fdiv 1 * t.fdiv (M11.foldG 2 ts)) ((2 : Int).fdiv (M11.foldG 2 ts) * b.fdiv 1) := by
  obtain ⟨h1, h2, h3⟩ := fold_two ts
  have e1 : (1 : Int).fdiv 1 = 1 := by decide
  have hg : (2 : Int).fdiv (M11.foldG 2 ts) = 2 ∨ (2 : Int).fdiv (M11.foldG 2 ts) = 1 := by
    have : M11.foldG 2 ts = 1 ∨ M11.foldG 2 ts = 2 := by omega
    rcases this with z | z
    · rw [z]; exact .inl (by decide)
    · rw [z]; exact .inr (by decide)
  have hb := S.bot
  have hp := S.pos
  rw [e1, Int.fdiv_one]
  refine ⟨by rw [List.length_map]; exact S.len, ?_, ?_, fun x hx => ?_⟩
  · rcases hg with z | z <;> rw [z] <;> omega
  · unfold M11.Bn at *
    have e : (2 : Nat) ^ (c + 1) = 2 ^ c + 2 ^ c := by rw [Nat.pow_succ]; omega
    rcases hg with z | z <;> rw [z] <;> omega
  · obtain ⟨t, ht, rfl⟩ := List.mem_map.mp hx
    rw [Int.one_mul]
    exact ((S.tops t ht).le (fdiv_le h1 (h3 t ht))).mono (by omega)
theorem ok_many {f fG fA : Addr} {fd fdG fdA : FuncData} (F : Fun K "many_times" "many_times" sManyRow f fd) (DG : Dn K mg "greatest_divisor" sGd ["number", "other"] fG fdG) (GG : FnOk P w K mg base CX0 1 fG fdG ["number", "other"] spG)
    (DA' : Dn K mg "shared_by_all" sAll ["divisor", "tops"] fA fdA) (GA : FnOk P w K mg base CX0 2 fA fdA ["divisor", "tops"] spAll) : FnOk P w K mg base CX0 3 f fd ["f", "value"] (spMany K) := by
  refine F.ok scMany (fun vs H Q E h => ?_) (fun cdv A outer s H vs Q E hr h => ?_)
  · obtain ⟨fa, v, n, c, rfl, _⟩ := h
    rfl
  · obtain ⟨fa, v, n, c, rfl, hf, ⟨p, l, ts, b, rfl, hp, hl, S⟩, hn, hc, q⟩ := h
    have r1 := hr.mono (j := 1) (by decide)
    refine ⟨_, pss_cons (ps_set (i := 2) scMany.nd rfl (Or.inl rfl) (pe_fn DG GG r1 rfl (pa_cons (pe_ix ix_tup (pv 0) pe_int (fun _ _ => rfl)) (pa_cons (pe_ix ix_tup (pv 1) pe_int (fun _ _ => rfl)) pa_nil))))
      (pss_cons (ps_set (i := 3) scMany.nd rfl (Or.inr rfl) (pe_fn DA' GA hr rfl (pa_cons (pe_ix ix_tup (pv 0) pe_int (fun _ _ => rfl)) (pa_cons (pe_ix ix_tup (pv 1) pe_int (fun _ _ => rfl)) pa_nil))))
      (pss_cons (ps_set (i := 4) scMany.nd rfl (Or.inr rfl) (pe_op op_fdivL (pe_ix ix_tup (pv 0) pe_int (fun _ _ => rfl)) (pv 2)))
      (pss_cons (ps_set (i := 5) scMany.nd rfl (Or.inl rfl) (pe_op op_mulN (pe_op op_fdivL (pe_ix ix_tup (pv 0) pe_int (fun _ _ => rfl)) (pv 3)) (pe_op op_fdivL (pe_ix ix_tup (pv 1) pe_int (fun _ _ => rfl)) (pv 2))))
      (pss_one (ps_ret (pe_tup (pa_cons (pe_lc1 rfl lcMany rfl (pi_list (pe_ix ix_tup (pv 1) pe_int (fun _ _ => rfl))) (fun _ _ _ => pe_op op_mulN (pv 4) (pe_op op_fdivL (pv 6) (pv 3)))) (pa_cons (pv 5) pa_nil)))))))), ?_⟩
    obtain ⟨g1, g2, g3⟩ := fold_two ts
    have d1 : ∀ u, CDivL u (1 : Int) := fun u => ⟨by decide, Nat.lt_of_lt_of_le (by decide : (1 : Int).natAbs < 2 ^ 1) (Nat.pow_le_pow_right (by decide) (by decide))⟩
    have d2 : ∀ u, CDivL u (M11.foldG 2 ts) := fun u => ⟨by omega, Nat.lt_of_lt_of_le (show (M11.foldG 2 ts).natAbs < 2 ^ 2 by omega) (Nat.pow_le_pow_right (by decide) (by decide))⟩
    refine ⟨_, rfl, fa, _, _, _, rfl, rfl, hf, rfl, _, rfl, p, _, _, _, rfl, rfl, SqT.of hp, rfl, 1, b, rfl, ?_⟩
    rw [G_one]
    refine ⟨_, rfl, fa, _, _, _, rfl, rfl, hf, rfl, _, rfl, p, _, _, _, rfl, rfl, SqT.of hp, rfl, l, ts, 2, rfl, hl, ?_⟩
    refine ⟨_, rfl, fa, _, _, _, rfl, rfl, hf, rfl, _, rfl, _, _, rfl, rfl, d1 _, ?_⟩
    have Sm := sh_many S
    refine ⟨_, rfl, fa, _, _, _, rfl, rfl, hf, rfl, _, rfl, _, _, rfl, rfl, d2 _, _, rfl, p, _, _, _, rfl, rfl, SqT.of hp, rfl, _, rfl, _, _, rfl, rfl, d1 _, _, _, rfl, rfl, ?_, ?_⟩
    · refine ⟨c + 2, by omega, ?_, ?_⟩
      · have : M11.foldG 2 ts = 1 ∨ M11.foldG 2 ts = 2 := by omega
        refine M11.Bn.mono (n := 2) ?_ (by omega)
        rcases this with z | z
        · rw [z]; show (2 : Nat) < 2 ^ 2; decide
        · rw [z]; show (1 : Nat) < 2 ^ 2; decide
      · rw [Int.fdiv_one]
        exact S.bot.mono (by omega)
    refine ⟨_, rfl, p, _, _, _, rfl, rfl, SqT.of hp, rfl, l, rfl, ⟨_, SqL.of hl⟩, fun D hD => ?_⟩
    refine lc_vals (ts.map fun t => V.int ((1 : Int).fdiv 1 * t.fdiv (M11.foldG 2 ts))) (by rw [List.length_map, List.length_map]) (by rw [List.length_map, S.len]; exact hn) hD (SqL.of hl) ?_ ?_ ?_
    · intro i x v H' hx hv s'
      obtain ⟨t, ht, rfl⟩ := map_get hx
      obtain ⟨t', ht', rfl⟩ := map_get hv
      rw [ht] at ht'
      cases ht'
      refine ⟨_, rfl, _, rfl, _, rfl, _, _, rfl, rfl, d2 _, _, _, rfl, rfl, ⟨c + 2, by omega, ?_, ?_⟩, rfl, Same.refl _⟩
      · exact M11.Bn.mono (n := 2) (by show (1 : Nat) < 2 ^ 2; decide) (by omega)
      · exact ((S.tops t (List.mem_of_getElem? ht)).le (fdiv_le g1 (g3 t (List.mem_of_getElem? ht)))).mono (by omega)
    · intro H' s' eD
      refine ⟨_, rfl, (by show 2 ≤ sizeLine; decide), fun p' hp' => ?_⟩
      refine q _ _ (s'.trans (Same.upd hp')) ⟨p', D, _, _, rfl, upd_same, ?_, Sm⟩
      rw [upd_ne (ne_of_none eD hp'), eD, List.map_map]
      rfl
    · rintro σ H' Q1 Q2 hq ⟨v, e, v', e', v2, e2, i, j, a1, a2, a3, i', j', c1, c2, c3, g⟩
      exact ⟨v, e, v', e', v2, e2, i, j, a1, a2, a3, i', j', c1, c2, c3, hq _ _ g⟩
end

/-! THE PROGRAM: one_then_other, tops_where_same, tops_of_leaf, tops_from_one, value_from_two, value_by_kind -/
section
variable {P : Program} {w : World} {K : PySem.W.Frag} {mg : Str → Option Value} {base : Heap}
theorem sne {a b : Str} (h : a ≠ b) : ¬ V.str a = V.str b := fun z => h (V.str.inj z)
theorem rep_map (z : Int) (k : Nat) : (List.replicate k [V.int z]).flatten = (List.replicate k z).map V.int := by
  induction k with
  | zero => rfl
  | succ k ih => rw [List.replicate_succ, List.flatten_cons, ih, List.replicate_succ, List.map_cons]; rfl
/-- four numbers -/
theorem four {ts : List Int} (h : ts.length = 4) : ∃ a b c d, ts = [a, b, c, d] := by
  match ts, h with
  | [a, b, c, d], _ => exact ⟨a, b, c, d, rfl⟩
theorem sq_four (a b c d : Int) : squareV ([a, b, c, d].map V.int) 2 = gI [[a, b], [c, d]] := rfl
theorem flat_gI (M : List (List Int)) : (gI M).flatten = M.flatten.map V.int := by
  unfold gI
  induction M with
  | nil => rfl
  | cons x M ih => rw [List.map_cons, List.flatten_cons, ih, List.flatten_cons, List.map_append]
/-! ### one_then_other -/
theorem sh_then {c : Nat} {ts us : List Int} {b d : Int} (S : Sh 4 c ts b) (T : Sh 4 c us d) {t0 t1 t2 t3 u0 u1 u2 u3 : Int} (et : ts = [t0, t1, t2, t3]) (eu : us = [u0, u1, u2, u3]) : Sh 4 (2 * c + 1) (prodI [[t0, t1], [t2, t3]] [[u0, u1], [u2, u3]] 2).flatten (b * d) := by
  subst et eu
  have st := S.tops
  have tu := T.tops
  have key : ∀ x y z v, x ∈ [u0, u1, u2, u3] → y ∈ [t0, t1, t2, t3] → z ∈ [u0, u1, u2, u3] → v ∈ [t0, t1, t2, t3] → M11.Bn (2 * c + 1) (x * y + (z * v + 0)) := fun x y z v hx hy hz hv => by
    rw [Int.add_zero]
    exact (Bn.add ((tu x hx).mul (st y hy)) ((tu z hz).mul (st v hv))).mono (by omega)
  refine ⟨rfl, Int.mul_pos S.pos T.pos, (S.bot.mul T.bot).mono (by omega), fun x hx => ?_⟩
  have e : (prodI [[t0, t1], [t2, t3]] [[u0, u1], [u2, u3]] 2).flatten = [u0 * t0 + (u2 * t1 + 0), u1 * t0 + (u3 * t1 + 0), u0 * t2 + (u2 * t3 + 0), u1 * t2 + (u3 * t3 + 0)] := rfl
  rw [e] at hx
  simp only [List.mem_cons, List.not_mem_nil, or_false] at hx
  rcases hx with rfl | rfl | rfl | rfl
  · exact key _ _ _ _ (by simp) (by simp) (by simp) (by simp)
  · exact key _ _ _ _ (by simp) (by simp) (by simp) (by simp)
  · exact key _ _ _ _ (by simp) (by simp) (by simp) (by simp)
  · exact key _ _ _ _ (by simp) (by simp) (by simp) (by simp)
def spThen : Sp := fun vs H Q _ => ∃ (v u : V) (c : Nat), vs = [.int 2, v, u] ∧ VAt H v 4 c ∧ VAt H u 4 c ∧ 2 * c + 1 ≤ 9000 ∧ ∀ z H', Same H H' → VAt H' z 4 (2 * c + 1) → Q z H'
abbrev nThen : List Str := ["size", "value", "other", "rows"]
theorem scThen : FnScope nThen ["size", "value", "other"] (defScope sThen) := ⟨rfl, rfl, rfl, by decide +kernel, rfl, by decide +kernel, by decide +kernel⟩
theorem ok_then {f fP fS fO fL : Addr} {fd fdP fdS fdO fdL : FuncData} (F : Fun K "one_then_other" "one_then_other" sThen f fd)
    (DP : Dn K mg "product_of_grids" sProd ["rows", "others"] fP fdP) (GP : FnOk P w K mg base CX0 3 fP fdP ["rows", "others"] spProd)
    (DS : Dn K mg "in_square" sInSq ["things", "size"] fS fdS) (GS : FnOk P w K mg base CX0 1 fS fdS ["things", "size"] (spInSq K))
    (DO : Dn K mg "in_one_list" sInOne ["rows"] fO fdO) (GO : FnOk P w K mg base CX0 1 fO fdO ["rows"] spInOne)
    (DL : Dn K mg "lowered" sLowered ["tops", "bottom"] fL fdL) (GL : FnOk P w K mg base CX0 3 fL fdL ["tops", "bottom"] spLowered) : FnOk P w K mg base CX0 4 f fd ["size", "value", "other"] spThen := by
  refine F.ok scThen (fun vs H Q E h => ?_) (fun cdv A outer s H vs Q E hr h => ?_)
  · obtain ⟨v, u, c, rfl, _⟩ := h
    rfl
  · obtain ⟨v, u, c, rfl, ⟨p, l, ts, b, rfl, hp, hl, S⟩, ⟨p', l', us, d, rfl, hp', hl', T⟩, hc, q⟩ := h
    have r1 := hr.mono (j := 1) (by decide)
    obtain ⟨t0, t1, t2, t3, et⟩ := four S.len
    obtain ⟨u0, u1, u2, u3, eu⟩ := four T.len
    have bt : ∀ x ∈ [[t0, t1], [t2, t3]], x.length = 2 ∧ ∀ z ∈ x, M11.Bn c z := fun x hx => by
      simp only [List.mem_cons, List.not_mem_nil, or_false] at hx
      rcases hx with rfl | rfl <;> exact ⟨rfl, fun z hz => S.tops z (by rw [et]; simp at hz ⊢; rcases hz with z | z <;> simp [z])⟩
    have bu : ∀ x ∈ [[u0, u1], [u2, u3]], x.length = 2 ∧ ∀ z ∈ x, M11.Bn c z := fun x hx => by
      simp only [List.mem_cons, List.not_mem_nil, or_false] at hx
      rcases hx with rfl | rfl <;> exact ⟨rfl, fun z hz => T.tops z (by rw [eu]; simp at hz ⊢; rcases hz with z | z <;> simp [z])⟩
    have Sn := sh_then S T et eu
    refine ⟨_, pss_cons (ps_set (i := 3) scThen.nd rfl (Or.inl rfl) (pe_fn DP GP hr rfl (pa_cons (pe_fn DS GS r1 rfl (pa_cons (pe_ix ix_tup (pv 1) pe_int (fun _ _ => rfl)) (pa_cons (pv 0) pa_nil))) (pa_cons (pe_fn DS GS r1 rfl (pa_cons (pe_ix ix_tup (pv 2) pe_int (fun _ _ => rfl)) (pa_cons (pv 0) pa_nil))) pa_nil))))
      (pss_one (ps_ret (pe_fn DL GL hr rfl (pa_cons (pe_fn DO GO r1 rfl (pa_cons (pv 3) pa_nil)) (pa_cons (pe_op op_mulN (pe_ix ix_tup (pv 1) pe_int (fun _ _ => rfl)) (pe_ix ix_tup (pv 2) pe_int (fun _ _ => rfl))) pa_nil))))), ?_⟩
    refine ⟨_, rfl, p, _, _, _, rfl, rfl, SqT.of hp, rfl, _, rfl, l, _, 2, rfl, SqL.of hl, by rw [List.length_map, S.len], by decide, fun a H1 s1 na ga => ?_⟩
    refine ⟨_, rfl, p', _, _, _, rfl, rfl, SqT.of (s1 _ _ hp'), rfl, _, rfl, l', _, 2, rfl, SqL.of (s1 _ _ hl'), by rw [List.length_map, T.len], by decide, fun a' H2 s2 na' ga' => ?_⟩
    rw [et, sq_four] at ga
    rw [eu, sq_four] at ga'
    refine ⟨a, a', _, _, 2, c, rfl, ga.mono s2, ga', (show 2 ≤ 900 by decide), (show 2 ≤ 900 by decide), by decide, by omega, bt, bu, (fun z => by cases z), fun R H3 s3 nR gR => ?_⟩
    have s03 := (s1.trans s2).trans s3
    refine ⟨_, rfl, R, _, rfl, gR, by rw [flat_gI, List.length_map, Sn.len]; decide, fun D H4 s4 nD eD => ?_⟩
    have s04 := s03.trans s4
    rw [flat_gI] at eD
    refine ⟨_, rfl, p, _, _, _, rfl, rfl, SqT.of (s04 _ _ hp), rfl, _, rfl, p', _, _, _, rfl, rfl, SqT.of (s04 _ _ hp'), rfl, _, _, rfl, rfl, mulN hc S.bot T.bot, D, _, _, 4, _, rfl, eD, Sn, by decide, hc, fun z H'' s'' rz => q z H'' (s04.trans s'') rz⟩
/-! ### tops_where_same -/
def spWhere : Sp := fun vs H Q _ => ∃ (l : Addr) (ts : List Int) (n c : Nat), vs = [.ref l] ∧ H l = some (.lst (ts.map V.int)) ∧ ts.length = n ∧ n ≤ 16 ∧ (∀ x ∈ ts, M11.Bn c x) ∧ ∀ D H' (us : List Int), Same H H' → H' D = some (.lst (us.map V.int)) → us.length = n * n → (∀ x ∈ us, M11.Bn c x) → Q (.ref D) H'
abbrev nWhere : List Str := ["tops", "size", "spread", "place", "top"]
theorem scWhere : FnScope nWhere ["tops"] (defScope sWhereSame) := ⟨rfl, rfl, rfl, by decide +kernel, rfl, by decide +kernel, by decide +kernel⟩
theorem ixN_nat {n j : Nat} (h : j < n) : ixN n (j : Int) = some j := by
  unfold ixN
  rw [if_pos (by omega), if_pos (by omega), Int.toNat_natCast]
theorem ok_where {f : Addr} {fd : FuncData} (B : BltR mg) (F : Fun K "tops_where_same" "tops_where_same" sWhereSame f fd) : FnOk P w K mg base CX0 1 f fd ["tops"] spWhere := by
  refine F.ok scWhere (fun vs H Q E h => ?_) (fun cdv A outer s H vs Q E hr h => ?_)
  · obtain ⟨l, ts, n, c, rfl, _⟩ := h
    rfl
  · obtain ⟨l, ts, n, c, rfl, hl, ln, hn, hb, q⟩ := h
    refine ⟨_, pss_cons (ps_set (i := 1) scWhere.nd rfl (Or.inl rfl) (pe_callB call_len_seq (by rfl) B.len PySem.boot_len (pa_cons (pv 0) pa_nil)))
      (pss_cons (ps_set (i := 2) scWhere.nd rfl (Or.inl rfl) (pe_op op_rep (pe_lst (pa_cons pe_int pa_nil)) (pe_op op_mul (pv 1) (pv 1))))
      (pss_cons (ps_for PassesOwn.never rfl (pi_enum rfl B.enum (pa_cons (pv 0) pa_nil)) (pg_tup rfl (pgs_cons (pg_name (i := 3) scWhere.nd rfl (Or.inl rfl)) (pgs_cons (pg_name (i := 4) scWhere.nd rfl (Or.inl rfl)) pgs_nil)))
        (pss_one (ps_asg (pv 4) (pg_sub (pv 2) (pe_op op_add (pe_op op_mul (pv 3) (pv 1)) (pv 3)) set_list))))
      (pss_one (ps_ret (pv 2))))), ?_⟩
    refine ⟨_, rfl, l, _, rfl, .inl (SqL.of hl), ?_⟩
    rw [List.length_map, ln]
    have nn : n * n ≤ 256 := Nat.mul_le_mul hn hn
    refine ⟨(by show 1 ≤ sizeLine; decide), fun l1 hl1 => ?_⟩
    have eN : (n : Int) * (n : Int) = ((n * n : Nat) : Int) := by push_cast; rfl
    refine ⟨_, rfl, _, rfl, _, _, rfl, rfl, cmul_l (by omega) (by omega), l1, _, _, rfl, rfl, upd_same, ?_, ?_, ?_, fun l2 hl2 => ?_⟩
    · rw [eN]; omega
    · rw [eN]; omega
    · rw [eN, Int.toNat_natCast]
      exact Nat.le_of_lt (small1000 (by show 1 * (n * n) ≤ 1000; omega))
    rw [eN, Int.toNat_natCast, rep_map]
    have s1 : Same H (L2.upd H l1 (.lst [.int 0])) := Same.upd hl1
    generalize L2.upd H l1 (.lst [.int 0]) = H1 at s1 hl2 ⊢
    have hD0 : H l2 = none := s1.free hl2
    have s2 : Same H (L2.upd H1 l2 (.lst ((List.replicate (n * n) (0 : Int)).map V.int))) := s1.trans (Same.upd hl2)
    have e2 : L2.upd H1 l2 (.lst ((List.replicate (n * n) (0 : Int)).map V.int)) l2 = some (.lst ((List.replicate (n * n) (0 : Int)).map V.int)) := upd_same
    generalize L2.upd H1 l2 (.lst ((List.replicate (n * n) (0 : Int)).map V.int)) = H2 at s2 e2 ⊢
    refine ⟨_, rfl, l, rfl, ⟨_, SqL.of (s2 _ _ hl)⟩, for_enum (K := K) (xs := ts.map V.int) (fun i σ H' => ∃ (o3 o4 : Option V) (us : List Int), σ = [some (.ref l), some (.int (n : Int)), some (.ref l2), o3, o4] ∧ Same H H' ∧ H' l2 = some (.lst (us.map V.int)) ∧ us.length = n * n ∧ ∀ x ∈ us, M11.Bn c x) ?_ ?_ ?_ ?_⟩
    · exact ⟨none, none, _, rfl, s2, e2, by rw [List.length_replicate], fun x hx => by rw [(List.mem_replicate.mp hx).2]; exact Bn.zero c⟩
    · rintro i σ H' _ ⟨o3, o4, us, rfl, s', _⟩
      exact SqL.of (s' _ _ hl)
    · rintro i x t σ H' hx ⟨o3, o4, us, rfl, s', e', lu, bu⟩ ht
      obtain ⟨z, ez, rfl⟩ := map_get hx
      have li : i < n := by rw [← ln]; exact lt_get ez
      refine ⟨t, _, rfl, SqT.of upd_same, rfl, _, _, rfl, _, _, rfl, rfl, ?_⟩
      have e3 : L2.upd H' t (.tup [.int (i : Int), .int z]) l2 = some (.lst (us.map V.int)) := by rw [upd_ne (ne_of_none e' ht)]; exact e'
      have s3 : Same H (L2.upd H' t (.tup [.int (i : Int), .int z])) := s'.trans (Same.upd ht)
      generalize L2.upd H' t (.tup [.int (i : Int), .int z]) = H3 at e3 s3 ⊢
      have ex : (i : Int) * (n : Int) + (i : Int) = ((i * n + i : Nat) : Int) := by push_cast; rfl
      have lx : i * n + i < n * n := by
        have : i * n + n ≤ n * n := by
          have := Nat.mul_le_mul_right n (show i + 1 ≤ n from li)
          rw [Nat.succ_mul] at this
          exact this
        omega
      refine ⟨_, rfl, _, rfl, _, rfl, _, rfl, _, _, rfl, rfl, cmul_l (by omega) (by omega), _, rfl, _, _, rfl, rfl, l2, _, _, i * n + i, rfl, rfl, e3, by rw [ex, List.length_map, lu]; exact ixN_nat lx, ?_⟩
      rw [← List.map_set]
      refine ⟨_, _, us.set (i * n + i) z, rfl, fun b o e => by rw [upd_ne (ne_of_none e hD0)]; exact s3 _ _ e, upd_same, by rw [List.length_set]; exact lu, fun y hy => ?_⟩
      rcases List.mem_or_eq_of_mem_set hy with hy | rfl
      · exact bu y hy
      · exact hb _ (List.mem_of_getElem? ez)
    · rintro σ H' ⟨o3, o4, us, rfl, s', e', lu, bu⟩
      exact ⟨_, rfl, q l2 H' us s' e' lu bu⟩
end

/-! THE PROGRAM: tops_of_leaf, tops_from_one, value_from_two, value_by_kind, in the web of two places -/
section
variable {P : Program} {w : World} {K : PySem.W.Frag} {mg : Str → Option Value} {base : Heap}
/-- the web of two places -/
def WebK (H : Hp) (wA : Addr) : Prop := ∃ hA rA r0 r1, H wA = some (.tup [.ref hA, .ref rA]) ∧ H hA = some (.lst [.int 0, .int 3]) ∧ H rA = some (.lst [.ref r0, .ref r1]) ∧ H r0 = some (.lst [.int 1, .int 2]) ∧ H r1 = some (.lst [.int 2, .int 0])
theorem WebK.mono {H H' : Hp} {a : Addr} (h : WebK H a) (s : Same H H') : WebK H' a := by
  obtain ⟨hA, rA, r0, r1, h1, h2, h3, h4, h5⟩ := h
  exact ⟨hA, rA, r0, r1, s _ _ h1, s _ _ h2, s _ _ h3, s _ _ h4, s _ _ h5⟩
theorem WebK.grid {H : Hp} {rA r0 r1 : Addr} (h3 : H rA = some (.lst [.ref r0, .ref r1])) (h4 : H r0 = some (.lst [.int 1, .int 2])) (h5 : H r1 = some (.lst [.int 2, .int 0])) : GrdAt H rA (gI [[1, 2], [2, 0]]) := by
  refine ⟨[r0, r1], h3, rfl, fun i r x e1 e2 => ?_⟩
  match i, e1, e2 with
  | 0, e1, e2 => cases e1; cases e2; exact h4
  | 1, e1, e2 => cases e1; cases e2; exact h5
  | i + 2, e1, e2 => simp at e1
/-! ### tops_of_leaf -/
def LeafW (w : Str) (rest : List V) (n : Nat) : Prop := (w = "hue" ∧ (∃ c : Int, rest = [.int c]) ∧ n = 2) ∨ ((w = "same" ∨ w = "tie" ∨ w = "all") ∧ n = 4)
def spLeaf (K : PySem.W.Frag) : Sp := fun vs H Q _ => ∃ (wA p : Addr) (w : Str) (rest : List V) (n : Nat), vs = [.ref wA, .ref p] ∧ WebK H wA ∧ SqT K H p (.str w :: rest) ∧ LeafW w rest n ∧ ∀ D H' (ts : List Int), Same H H' → H' D = some (.lst (ts.map V.int)) → ts.length = n → (∀ x ∈ ts, M11.Bn 3 x) → Q (.ref D) H'
abbrev nLeaf : List Str := ["web", "term", "size", "kind"]
theorem scLeaf : FnScope nLeaf ["web", "term"] (defScope sLeaf) := ⟨rfl, rfl, rfl, by decide +kernel, rfl, by decide +kernel, by decide +kernel⟩
def ifIn (st : Stmt) : Expr := match st with
  | .If _ (b :: _) _ _ => asgVal b
  | _ => .Constant .none 0 ⟨0, 0, 0, 0⟩
theorem lcLeaf : LcScopes (defScope sLeaf) nLeaf (lcScope (ifIn (bodyAt sLeaf 3))) ["hue"] := ⟨by decide +kernel, rfl, by decide +kernel, by decide +kernel, by decide +kernel, by decide +kernel, by decide +kernel, by decide +kernel, by decide +kernel, by decide +kernel⟩
theorem bn3 {x : Int} (h : x.natAbs < 8) : M11.Bn 3 x := h
theorem ok_leaf {f fW fO : Addr} {fd fdW fdO : FuncData} (B : BltR mg) (F : Fun K "tops_of_leaf" "tops_of_leaf" sLeaf f fd)
    (DW : Dn K mg "tops_where_same" sWhereSame ["tops"] fW fdW) (GW : FnOk P w K mg base CX0 1 fW fdW ["tops"] spWhere)
    (DO : Dn K mg "in_one_list" sInOne ["rows"] fO fdO) (GO : FnOk P w K mg base CX0 1 fO fdO ["rows"] spInOne) : FnOk P w K mg base CX0 2 f fd ["web", "term"] (spLeaf K) := by
  refine F.ok scLeaf (fun vs H Q E h => ?_) (fun cdv A outer s H vs Q E hr h => ?_)
  · obtain ⟨wA, p, w, rest, n, rfl, _⟩ := h
    rfl
  · obtain ⟨wA, p, w, rest, n, rfl, ⟨hA, rA, r0, r1, w1, w2, w3, w4, w5⟩, hp, hL, k⟩ := h
    refine ⟨_, pss_cons (ps_set (i := 2) scLeaf.nd rfl (Or.inl rfl) (pe_callB call_len_seq (by rfl) B.len PySem.boot_len (pa_cons (pe_ix ix_tup (pv 0) pe_int (fun _ _ => rfl)) pa_nil)))
      (pss_cons (ps_set (i := 3) scLeaf.nd rfl (Or.inl rfl) (pe_ix ix_tup (pv 1) pe_int (fun _ _ => rfl)))
      (pss_cons (ps_if (pt_cmpR op_eq (pv 3) pe_str (nomark _)) pss_never pss_nil)
      (pss_cons (ps_if (pt_cmpR op_eq (pv 3) pe_str (nomark _)) (pss_one (ps_ret (pe_lc1 rfl lcLeaf rfl (pi_list (pe_ix ix_tup (pv 0) pe_int (fun _ _ => rfl))) (fun _ _ _ => pe_ifExp (pt_cmpR op_eq (pv 4) (pe_ix (ix_tupK (K := K)) (pv 1) pe_int (fun _ _ => rfl)) (nomark _)) pe_int pe_int)))) pss_nil)
      (pss_cons (ps_if (pt_cmpR op_eq (pv 3) pe_str (nomark _)) (pss_one (ps_ret (pe_fn DW GW hr rfl (pa_cons (pe_op op_rep (pe_lst (pa_cons pe_int pa_nil)) (pv 2)) pa_nil)))) pss_nil)
      (pss_cons (ps_if (pt_cmpR op_eq (pv 3) pe_str (nomark _)) (pss_one (ps_ret (pe_fn DO GO hr rfl (pa_cons (pe_ix ix_tup (pv 0) pe_int (fun _ _ => rfl)) pa_nil)))) pss_nil)
      (pss_one (ps_ret (pe_op op_rep (pe_lst (pa_cons pe_int pa_nil)) (pe_op op_mul (pv 2) (pv 2)))))))))), ?_⟩
    refine ⟨_, rfl, wA, _, _, _, rfl, rfl, SqT.of w1, rfl, hA, _, rfl, .inl (SqL.of w2), ?_⟩
    refine ⟨_, rfl, p, _, _, _, rfl, rfl, hp, at_hd _ _, ?_⟩
    refine ⟨_, rfl, rfl, _, rfl, ?_⟩
    rcases hL with ⟨rfl, ⟨c, rfl⟩, rfl⟩ | ⟨hw, rfl⟩
    · refine itDN (sne (show ("hue" : Str) ≠ "one" by decide +kernel)) ?_
      refine ⟨_, rfl, rfl, _, rfl, itDP rfl ?_⟩
      refine ⟨_, rfl, wA, _, _, _, rfl, rfl, SqT.of w1, rfl, hA, rfl, ⟨_, SqL.of w2⟩, fun D hD => ?_⟩
      refine lc_vals (xs := [.int 0, .int 3]) (([0, 3] : List Int).map fun h => V.int (if h = c then 1 else 0)) rfl (by show 2 ≤ 900; decide) hD (SqL.of w2) ?_ ?_ ?_
      · intro i x v H' hx hv s'
        have hx' : (([0, 3] : List Int).map V.int)[i]? = some x := hx
        obtain ⟨t, ht, rfl⟩ := map_get hx'
        obtain ⟨t', ht', rfl⟩ := map_get hv
        rw [ht] at ht'
        cases ht'
        refine ⟨_, rfl, _, rfl, p, _, _, _, rfl, rfl, s'.seqT hp, at_snd _ _ _, rfl, _, rfl, ?_⟩
        by_cases e : t = c
        · subst e
          refine itDP rfl ⟨?_, Same.refl _⟩
          rw [if_pos rfl]
        · refine itDN (fun z => e (V.int.inj z)) ⟨?_, Same.refl _⟩
          rw [if_neg e]
      · intro H' s' eD
        refine k D H' (([0, 3] : List Int).map fun h => if h = c then 1 else 0) s' ?_ rfl fun x hx => ?_
        · rw [eD, List.map_map]; rfl
        · obtain ⟨h, _, rfl⟩ := List.mem_map.mp hx
          refine bn3 ?_
          split <;> decide
      · rintro σ H' Q1 Q2 hq ⟨v, e, v', e', a1, a2, a3, a4, a5, a6, a7, a8, e2, c', e3, g⟩
        refine ⟨v, e, v', e', a1, a2, a3, a4, a5, a6, a7, a8, e2, c', e3, ?_⟩
        cases c' with
        | true => exact iteT (hq _ _ (by rw [if_pos rfl] at g; exact g))
        | false => exact iteF (hq _ _ (by rw [if_neg Bool.false_ne_true] at g; exact g))
    · have n1 : w ≠ "one" := by rcases hw with rfl | rfl | rfl <;> decide +kernel
      have n2 : w ≠ "hue" := by rcases hw with rfl | rfl | rfl <;> decide +kernel
      refine itDN (sne n1) ⟨_, rfl, rfl, _, rfl, itDN (sne n2) ⟨_, rfl, rfl, _, rfl, ?_⟩⟩
      rcases hw with rfl | rfl | rfl
      · refine itDP rfl ?_
        refine ⟨(by show 1 ≤ sizeLine; decide), fun l1 hl1 => ?_⟩
        refine ⟨_, rfl, l1, _, _, rfl, rfl, upd_same, by decide, by decide, (by show 2 ≤ sizeLine; decide), fun l2 hl2 => ?_⟩
        have s2 := (Same.upd (o := .lst [.int 1]) hl1).trans (Same.upd (o := .lst [.int 1, .int 1]) hl2)
        refine ⟨l2, [1, 1], 2, 3, rfl, upd_same, rfl, by decide, fun x hx => ?_, fun D H' us s' eD lu bu => k D H' us (s2.trans s') eD lu bu⟩
        simp only [List.mem_cons, List.not_mem_nil, or_false, or_self] at hx
        subst hx
        exact bn3 (by decide)
      · refine itDN (sne (show ("tie" : Str) ≠ "same" by decide +kernel)) ⟨_, rfl, rfl, _, rfl, itDP rfl ?_⟩
        refine ⟨_, rfl, wA, _, _, _, rfl, rfl, SqT.of w1, rfl, rA, _, rfl, WebK.grid w3 w4 w5, by decide, fun D H' s' nD eD => ?_⟩
        refine k D H' [1, 2, 2, 0] s' eD rfl fun x hx => ?_
        simp only [List.mem_cons, List.not_mem_nil, or_false] at hx
        rcases hx with rfl | rfl | rfl | rfl <;> exact bn3 (by decide)
      · refine itDN (sne (show ("all" : Str) ≠ "same" by decide +kernel)) ⟨_, rfl, rfl, _, rfl, itDN (sne (show ("all" : Str) ≠ "tie" by decide +kernel)) ?_⟩
        refine ⟨(by show 1 ≤ sizeLine; decide), fun l1 hl1 => ?_⟩
        refine ⟨_, rfl, _, rfl, _, _, rfl, rfl, cmul_l (by decide) (by decide), l1, _, _, rfl, rfl, upd_same, by decide, by decide, (by show 4 ≤ sizeLine; decide), fun l2 hl2 => ?_⟩
        refine k l2 _ [1, 1, 1, 1] ((Same.upd hl1).trans (Same.upd hl2)) upd_same rfl fun x hx => ?_
        simp only [List.mem_cons, List.not_mem_nil, or_false, or_self] at hx
        subst hx
        exact bn3 (by decide)
/-! ### tops_from_one -/
def spFromOne : Sp := fun vs H Q _ => ∃ (wA l : Addr) (b : Bool) (ts : List Int) (c : Nat), vs = [.ref wA, .str (if b = true then "on" else "turned"), .ref l] ∧ WebK H wA ∧ H l = some (.lst (ts.map V.int)) ∧ ts.length = (if b = true then 2 else 4) ∧ (∀ x ∈ ts, M11.Bn c x) ∧
  ∀ D H' (us : List Int), Same H H' → H' D = some (.lst (us.map V.int)) → us.length = 4 → (∀ x ∈ us, M11.Bn c x) → Q (.ref D) H'
abbrev nFromOne : List Str := ["web", "kind", "tops", "rows"]
theorem scFromOne : FnScope nFromOne ["web", "kind", "tops"] (defScope sFromOne) := ⟨rfl, rfl, rfl, by decide +kernel, rfl, by decide +kernel, by decide +kernel⟩
theorem ok_fromOne {f fW fS fC fO : Addr} {fd fdW fdS fdC fdO : FuncData} (B : BltR mg) (F : Fun K "tops_from_one" "tops_from_one" sFromOne f fd)
    (DW : Dn K mg "tops_where_same" sWhereSame ["tops"] fW fdW) (GW : FnOk P w K mg base CX0 1 fW fdW ["tops"] spWhere)
    (DS : Dn K mg "in_square" sInSq ["things", "size"] fS fdS) (GS : FnOk P w K mg base CX0 1 fS fdS ["things", "size"] (spInSq K))
    (DC : Dn K mg "columns_of" sCols ["rows"] fC fdC) (GC : FnOk P w K mg base CX0 2 fC fdC ["rows"] spCols)
    (DO : Dn K mg "in_one_list" sInOne ["rows"] fO fdO) (GO : FnOk P w K mg base CX0 1 fO fdO ["rows"] spInOne) : FnOk P w K mg base CX0 3 f fd ["web", "kind", "tops"] spFromOne := by
  refine F.ok scFromOne (fun vs H Q E h => ?_) (fun cdv A outer s H vs Q E hr h => ?_)
  · obtain ⟨wA, l, b, ts, c, rfl, _⟩ := h
    rfl
  · obtain ⟨wA, l, b, ts, c, rfl, ⟨hA, rA, r0, r1, w1, w2, w3, w4, w5⟩, hl, ln, hb, k⟩ := h
    have r1' := hr.mono (j := 1) (by decide)
    refine ⟨_, pss_cons (ps_if (pt_cmpR op_eq (pv 1) pe_str (nomark _)) pss_never pss_nil)
      (pss_cons (ps_if (pt_cmpR op_eq (pv 1) pe_str (nomark _)) (pss_one (ps_ret (pe_fn DW GW r1' rfl (pa_cons (pv 2) pa_nil)))) pss_nil)
      (pss_cons (ps_set (i := 3) scFromOne.nd rfl (Or.inl rfl) (pe_fn DS GS r1' rfl (pa_cons (pv 2) (pa_cons (pe_callB call_len_seq (by rfl) B.len PySem.boot_len (pa_cons (pe_ix ix_tup (pv 0) pe_int (fun _ _ => rfl)) pa_nil)) pa_nil))))
      (pss_cons (ps_if (pt_cmpR op_eq (pv 1) pe_str (nomark _)) pss_never pss_nil)
      (pss_one (ps_ret (pe_fn DO GO r1' rfl (pa_cons (pe_fn DC GC hr rfl (pa_cons (pv 3) pa_nil)) pa_nil))))))), ?_⟩
    refine ⟨_, rfl, rfl, _, rfl, ?_⟩
    cases b with
    | true =>
      refine itDN (sne (show ("on" : Str) ≠ "near" by decide +kernel)) ⟨_, rfl, rfl, _, rfl, itDP rfl ?_⟩
      exact ⟨_, rfl, l, ts, 2, c, rfl, hl, ln, by decide, hb, fun D H' us s' eD lu bu => k D H' us s' eD lu bu⟩
    | false =>
      refine itDN (sne (show ("turned" : Str) ≠ "near" by decide +kernel)) ⟨_, rfl, rfl, _, rfl, itDN (sne (show ("turned" : Str) ≠ "on" by decide +kernel)) ?_⟩
      obtain ⟨t0, t1, t2, t3, rfl⟩ := four ln
      refine ⟨_, rfl, _, rfl, wA, _, _, _, rfl, rfl, SqT.of w1, rfl, hA, _, rfl, .inl (SqL.of w2), l, _, 2, rfl, SqL.of hl, rfl, by decide, fun a H1 s1 na ga => ?_⟩
      refine ⟨_, rfl, rfl, _, rfl, itDN (sne (show ("turned" : Str) ≠ "rows" by decide +kernel)) ?_⟩
      rw [sq_four] at ga
      refine ⟨_, rfl, a, _, 2, rfl, ga, (show 2 ≤ 900 by decide), by decide, (fun x hx => ?_), (fun z => by cases z), fun D1 H2 s2 n2 g2' => ?_⟩
      · have hx' : x ∈ [[V.int t0, V.int t1], [V.int t2, V.int t3]] := hx
        simp only [List.mem_cons, List.not_mem_nil, or_false] at hx'
        rcases hx' with rfl | rfl <;> rfl
      have g3 : GrdAt H2 D1 (gI [[t0, t2], [t1, t3]]) := g2'
      refine ⟨D1, _, rfl, g3, (show 4 ≤ 900 by decide), fun D H' s' nD eD => ?_⟩
      refine k D H' [t0, t2, t1, t3] ((s1.trans s2).trans s') eD rfl fun x hx => hb x ?_
      simp only [List.mem_cons, List.not_mem_nil, or_false] at hx ⊢
      rcases hx with z | z | z | z <;> simp [z]
/-! ### value_from_two -/
def TwoW (w : Str) : Prop := w = "plus" ∨ w = "then" ∨ w = "meet"
def spTwo : Sp := fun vs H Q _ => ∃ (wA : Addr) (w : Str) (v u : V) (c : Nat), vs = [.ref wA, .str w, v, u] ∧ WebK H wA ∧ TwoW w ∧ VAt H v 4 c ∧ VAt H u 4 c ∧ 2 * c + 1 ≤ 9000 ∧ ∀ z H', Same H H' → VAt H' z 4 (2 * c + 1) → Q z H'
abbrev nTwo : List Str := ["web", "kind", "value", "other"]
theorem scTwo : FnScope nTwo nTwo (defScope sFromTwo) := ⟨rfl, rfl, rfl, by decide +kernel, rfl, by decide +kernel, by decide +kernel⟩
theorem ok_two {f fB fP fT : Addr} {fd fdB fdP fdT : FuncData} (B : BltR mg) (F : Fun K "value_from_two" "value_from_two" sFromTwo f fd)
    (DB : Dn K mg "one_by_one_product" sBothRow ["value", "other"] fB fdB) (GB : FnOk P w K mg base CX0 4 fB fdB ["value", "other"] sp2R)
    (DP : Dn K mg "one_by_one_sum" sPlusRow ["value", "other"] fP fdP) (GP : FnOk P w K mg base CX0 4 fP fdP ["value", "other"] sp2R)
    (DT : Dn K mg "one_then_other" sThen ["size", "value", "other"] fT fdT) (GT : FnOk P w K mg base CX0 4 fT fdT ["size", "value", "other"] spThen) : FnOk P w K mg base CX0 5 f fd nTwo spTwo := by
  refine F.ok scTwo (fun vs H Q E h => ?_) (fun cdv A outer s H vs Q E hr h => ?_)
  · obtain ⟨wA, w, v, u, c, rfl, _⟩ := h
    rfl
  · obtain ⟨wA, w, v, u, c, rfl, ⟨hA, rA, r0, r1, w1, w2, w3, w4, w5⟩, hw, h1, h2, hc, q⟩ := h
    refine ⟨_, pss_cons (ps_if (pt_cmpR op_eq (pv 1) pe_str (nomark _)) (pss_one (ps_ret (pe_fn DP GP hr rfl (pa_cons (pv 2) (pa_cons (pv 3) pa_nil))))) pss_nil)
      (pss_cons (ps_if (pt_cmpR op_eq (pv 1) pe_str (nomark _)) (pss_one (ps_ret (pe_fn DT GT hr rfl (pa_cons (pe_callB call_len_seq (by rfl) B.len PySem.boot_len (pa_cons (pe_ix ix_tup (pv 0) pe_int (fun _ _ => rfl)) pa_nil)) (pa_cons (pv 2) (pa_cons (pv 3) pa_nil)))))) pss_nil)
      (pss_one (ps_ret (pe_fn DB GB hr rfl (pa_cons (pv 2) (pa_cons (pv 3) pa_nil)))))), ?_⟩
    refine ⟨_, rfl, rfl, _, rfl, ?_⟩
    rcases hw with rfl | rfl | rfl
    · refine itDP rfl ?_
      exact ⟨_, rfl, _, rfl, v, u, 4, c, rfl, h1, h2, by decide, hc, q⟩
    · refine itDN (sne (show ("then" : Str) ≠ "plus" by decide +kernel)) ⟨_, rfl, rfl, _, rfl, itDP rfl ?_⟩
      exact ⟨_, rfl, wA, _, _, _, rfl, rfl, SqT.of w1, rfl, hA, _, rfl, .inl (SqL.of w2), _, rfl, _, rfl, v, u, c, rfl, h1, h2, hc, q⟩
    · refine itDN (sne (show ("meet" : Str) ≠ "plus" by decide +kernel)) ⟨_, rfl, rfl, _, rfl, itDN (sne (show ("meet" : Str) ≠ "then" by decide +kernel)) ?_⟩
      exact ⟨_, rfl, _, rfl, v, u, 4, c, rfl, h1, h2, by decide, hc, q⟩
/-! ### value_by_kind -/
/-- what a step's word wants of the values within -/
inductive BK (K : PySem.W.Frag) (H : Hp) : Str → List V → List V → Nat → Nat → Prop where
  | leaf {w : Str} {rest : List V} {n : Nat} (h : LeafW w rest n) : BK K H w rest [] n 3
  | one {b : Bool} {rest : List V} {v : V} {c : Nat} (h : VAt H v (if b = true then 2 else 4) c) : BK K H (if b = true then "on" else "turned") rest [v] 4 c
  | two {w : Str} {rest : List V} {v u : V} {c : Nat} (hw : TwoW w) (h1 : VAt H v 4 c) (h2 : VAt H u 4 c) (hc : 2 * c + 1 ≤ 9000) : BK K H w rest [v, u] 4 (2 * c + 1)
  | many {fa : Addr} {rest : List V} {v : V} {c : Nat} (hf : SqT K H fa [.int 1, .int 2]) (h : VAt H v 4 c) (hc : c + 1 ≤ 9000) : BK K H "many" (.ref fa :: rest) [v] 4 (c + 1)
def spByKind (K : PySem.W.Frag) : Sp := fun vs H Q _ => ∃ (wA p q : Addr) (w : Str) (rest ps : List V) (n c : Nat), vs = [.ref wA, .ref p, .ref q] ∧ WebK H wA ∧ SqT K H p (.str w :: rest) ∧ H q = some (.lst ps) ∧ BK K H w rest ps n c ∧ ∀ z H', Same H H' → VAt H' z n c → Q z H'
abbrev nByKind : List Str := ["web", "term", "inner_values", "kind", "value"]
theorem scByKind : FnScope nByKind ["web", "term", "inner_values"] (defScope sByKind) := ⟨rfl, rfl, rfl, by decide +kernel, rfl, by decide +kernel, by decide +kernel⟩
theorem ok_byKind {f fE fO fT fM : Addr} {fd fdE fdO fdT fdM : FuncData} (B : BltR mg) (F : Fun K "value_by_kind" "value_by_kind" sByKind f fd)
    (DE : Dn K mg "tops_of_leaf" sLeaf ["web", "term"] fE fdE) (GE : FnOk P w K mg base CX0 2 fE fdE ["web", "term"] (spLeaf K))
    (DO : Dn K mg "tops_from_one" sFromOne ["web", "kind", "tops"] fO fdO) (GO : FnOk P w K mg base CX0 3 fO fdO ["web", "kind", "tops"] spFromOne)
    (DT : Dn K mg "value_from_two" sFromTwo nTwo fT fdT) (GT : FnOk P w K mg base CX0 5 fT fdT nTwo spTwo)
    (DM : Dn K mg "many_times" sManyRow ["f", "value"] fM fdM) (GM : FnOk P w K mg base CX0 3 fM fdM ["f", "value"] (spMany K)) : FnOk P w K mg base CX0 6 f fd ["web", "term", "inner_values"] (spByKind K) := by
  refine F.ok scByKind (fun vs H Q E h => ?_) (fun cdv A outer s H vs Q E hr h => ?_)
  · obtain ⟨wA, p, q, w, rest, ps, n, c, rfl, _⟩ := h
    rfl
  · obtain ⟨wA, p, q, w, rest, ps, n, c, rfl, hW, hp, hq, hB, k⟩ := h
    have r2 := hr.mono (j := 2) (by decide)
    have r3 := hr.mono (j := 3) (by decide)
    refine ⟨_, pss_cons (ps_set (i := 3) scByKind.nd rfl (Or.inl rfl) (pe_ix ix_tup (pv 1) pe_int (fun _ _ => rfl)))
      (pss_cons (ps_if (pt_cmpR op_eq (pe_callB call_len_seq (by rfl) B.len PySem.boot_len (pa_cons (pv 2) pa_nil)) pe_int (nomark _)) (pss_one (ps_ret (pe_fn DT GT hr rfl (pa_cons (pv 0) (pa_cons (pv 3) (pa_cons (pe_ix ix_list (pv 2) pe_int (fun _ _ => rfl)) (pa_cons (pe_ix ix_list (pv 2) pe_int (fun _ _ => rfl)) pa_nil))))))) pss_nil)
      (pss_cons (ps_if (pt_cmpR op_eq (pe_callB call_len_seq (by rfl) B.len PySem.boot_len (pa_cons (pv 2) pa_nil)) pe_int (nomark _)) (pss_one (ps_ret (pe_tup (pa_cons (pe_fn DE GE r2 rfl (pa_cons (pv 0) (pa_cons (pv 1) pa_nil))) (pa_cons pe_int pa_nil))))) pss_nil)
      (pss_cons (ps_set (i := 4) scByKind.nd rfl (Or.inl rfl) (pe_ix ix_list (pv 2) pe_int (fun _ _ => rfl)))
      (pss_cons (ps_if (pt_cmpR op_eq (pv 3) pe_str (nomark _)) (pss_one (ps_ret (pe_fn DM GM r3 rfl (pa_cons (pe_ix ix_tup (pv 1) pe_int (fun _ _ => rfl)) (pa_cons (pv 4) pa_nil))))) pss_nil)
      (pss_one (ps_ret (pe_tup (pa_cons (pe_fn DO GO r3 rfl (pa_cons (pv 0) (pa_cons (pv 3) (pa_cons (pe_ix ix_tup (pv 4) pe_int (fun _ _ => rfl)) pa_nil)))) (pa_cons (pe_ix ix_tup (pv 4) pe_int (fun _ _ => rfl)) pa_nil))))))))), ?_⟩
    refine ⟨_, rfl, p, _, _, _, rfl, rfl, hp, at_hd _ _, ?_⟩
    refine ⟨_, rfl, q, _, rfl, .inl (SqL.of hq), rfl, _, rfl, ?_⟩
    have i02 : ¬ V.int 0 = V.int 2 := fun z => absurd (V.int.inj z) (by decide)
    have i12 : ¬ V.int 1 = V.int 2 := fun z => absurd (V.int.inj z) (by decide)
    have i10 : ¬ V.int 1 = V.int 0 := fun z => absurd (V.int.inj z) (by decide)
    cases hB with
    | leaf h =>
      refine itDN i02 ⟨_, rfl, q, _, rfl, .inl (SqL.of hq), rfl, _, rfl, itDP rfl ?_⟩
      refine ⟨_, rfl, _, rfl, wA, p, _, _, _, rfl, hW, hp, h, fun D H' ts s' eD lt bt => ?_⟩
      refine ⟨(by show 2 ≤ sizeLine; decide), fun p' hp' => ?_⟩
      exact k _ _ (s'.trans (Same.upd hp')) ⟨p', D, ts, 1, rfl, upd_same, by rw [upd_ne (ne_of_none eD hp')]; exact eD, lt, by decide, bn3 (by decide), bt⟩
    | @one b rest v c h =>
      obtain ⟨pv', l, ts, bb, rfl, e1, e2, S⟩ := h
      refine itDN i12 ⟨_, rfl, q, _, rfl, .inl (SqL.of hq), rfl, _, rfl, itDN i10 ?_⟩
      refine ⟨_, rfl, q, _, _, _, rfl, rfl, SqL.of hq, at_hd _ _, ?_⟩
      have nm : (if b = true then "on" else "turned" : Str) ≠ "many" := by cases b <;> decide +kernel
      refine ⟨_, rfl, rfl, _, rfl, itDN (sne nm) ?_⟩
      refine ⟨_, rfl, _, rfl, _, rfl, pv', _, _, _, rfl, rfl, SqT.of e1, rfl, wA, l, b, ts, c, rfl, hW, e2, S.len, S.tops, fun D H' us s' eD lu bu => ?_⟩
      refine ⟨_, rfl, pv', _, _, _, rfl, rfl, SqT.of (s' _ _ e1), rfl, (by show 2 ≤ sizeLine; decide), fun p' hp' => ?_⟩
      exact k _ _ (s'.trans (Same.upd hp')) ⟨p', D, us, bb, rfl, upd_same, by rw [upd_ne (ne_of_none eD hp')]; exact eD, lu, S.pos, S.bot, bu⟩
    | @two w rest v u c hw h1 h2 hc =>
      refine itDP rfl ?_
      exact ⟨_, rfl, _, rfl, _, rfl, q, _, _, _, rfl, rfl, SqL.of hq, at_hd _ _, _, rfl, q, _, _, _, rfl, rfl, SqL.of hq, at_snd _ _ _, wA, w, v, u, c, rfl, hW, hw, h1, h2, hc, k⟩
    | @many fa rest v c hf h hc =>
      refine itDN i12 ⟨_, rfl, q, _, rfl, .inl (SqL.of hq), rfl, _, rfl, itDN i10 ?_⟩
      refine ⟨_, rfl, q, _, _, _, rfl, rfl, SqL.of hq, at_hd _ _, ?_⟩
      refine ⟨_, rfl, rfl, _, rfl, itDP rfl ?_⟩
      exact ⟨_, rfl, p, _, _, _, rfl, rfl, hp, at_snd _ _ _, _, rfl, fa, v, 4, c, rfl, hf, h, by decide, hc, k⟩
end

/-! THE PROGRAM: shared_by_any, fractions_of_value, total_of_value -/
section
variable {P : Program} {w : World} {K : PySem.W.Frag} {mg : Str → Option Value} {base : Heap}
/-! ### shared_by_any -/
def spAny : Sp := fun vs H Q _ => ∃ (l : Addr) (ts : List Int) (b : Int) (n c : Nat), vs = [.ref l, .int b] ∧ H l = some (.lst (ts.map V.int)) ∧ Sh n c ts b ∧ c ≤ 9000 ∧ ∀ g : Int, 0 < g → g ≤ b → Q (.int g) H
abbrev nAny : List Str := ["tops", "bottom", "product", "top"]
theorem scAny : FnScope nAny ["tops", "bottom"] (defScope sAny) := ⟨rfl, rfl, rfl, by decide +kernel, rfl, by decide +kernel, by decide +kernel⟩
theorem G_le {b x : Int} (h : 0 < b) : 0 < M11.G b x ∧ M11.G b x ≤ b := by
  refine ⟨M11.G_pos h, ?_⟩
  exact Int.le_of_dvd h (Int.gcd_dvd_left b x)
theorem ok_any {f fG : Addr} {fd fdG : FuncData} (F : Fun K "shared_by_any" "shared_by_any" sAny f fd) (DG : Dn K mg "greatest_divisor" sGd ["number", "other"] fG fdG) (GG : FnOk P w K mg base CX0 1 fG fdG ["number", "other"] spG) : FnOk P w K mg base CX0 2 f fd ["tops", "bottom"] spAny := by
  refine F.ok scAny (fun vs H Q E h => ?_) (fun cdv A outer s H vs Q E hr h => ?_)
  · obtain ⟨l, ts, b, n, c, rfl, _⟩ := h
    rfl
  · obtain ⟨l, ts, b, n, c, rfl, hl, S, hc, q⟩ := h
    refine ⟨_, pss_cons (ps_set (i := 2) scAny.nd rfl (Or.inl rfl) pe_int)
      (pss_cons (ps_for PassesOwn.never rfl (pi_list (pv 0)) (pg_name (i := 3) scAny.nd rfl (Or.inl rfl))
        (pss_one (ps_if (pt_cmpR op_ne (pv 3) pe_int (nomark _)) (pss_one (ps_set (i := 2) scAny.nd rfl (Or.inl rfl) (pe_op op_modN (pe_op op_mulN (pv 2) (pv 3)) (pv 1)))) pss_nil)))
      (pss_one (ps_ret (pe_fn DG GG hr rfl (pa_cons (pv 1) (pa_cons (pv 2) pa_nil)))))), ?_⟩
    have hb := S.bot
    have hp := S.pos
    refine ⟨_, rfl, l, rfl, ⟨_, SqL.of hl⟩, for_list (xs := ts.map V.int) (fun i σ H' => ∃ (ot : Option V) (x : Int), σ = [some (.ref l), some (.int b), some (.int x), ot] ∧ H' = H ∧ M11.Bn c x) ?_ (fun i σ H' _ ⟨_, _, _, e, _⟩ => by subst e; exact SqL.of hl) ?_ ?_⟩
    · exact ⟨none, 1, rfl, rfl, hb.le (by omega)⟩
    · rintro i x σ H1 hx ⟨ot, y, rfl, rfl, hy⟩
      obtain ⟨t, ht, rfl⟩ := map_get hx
      refine ⟨_, rfl, rfl, _, rfl, ?_⟩
      by_cases h0 : t = 0
      · refine iteNS (by rw [h0]) ?_
        exact ⟨_, y, rfl, rfl, hy⟩
      · refine iteNP (fun z => h0 (V.int.inj z)) ?_
        refine ⟨_, rfl, _, rfl, _, _, rfl, rfl, ⟨c, by omega, hy, S.tops t (List.mem_of_getElem? ht)⟩, _, rfl, _, _, rfl, rfl, by omega, ?_⟩
        refine ⟨_, _, rfl, rfl, hb.le ?_⟩
        exact Nat.le_of_lt (M11.fmod_small _ b (by omega))
    · rintro σ H1 ⟨ot, y, rfl, rfl, hy⟩
      exact ⟨_, rfl, _, rfl, b, y, rfl, q _ (G_le hp).1 (G_le hp).2⟩
/-! ### fractions_of_value -/
def spFrs : Sp := fun vs H Q _ => ∃ (v : V) (n c : Nat), vs = [v] ∧ VAt H v n c ∧ n ≤ 900 ∧ c ≤ 9000 ∧ ∀ D H' xs, Same H H' → H' D = some (.lst xs) → xs.length = n → Q (.ref D) H'
abbrev nFrs : List Str := ["value", "bottom", "shared", "fractions", "top", "divisor"]
theorem scFrs : FnScope nFrs ["value"] (defScope sFrs) := ⟨rfl, rfl, rfl, by decide +kernel, rfl, by decide +kernel, by decide +kernel⟩
theorem G_le2 {t g : Int} (h : 0 < g) : 0 < M11.G t g ∧ M11.G t g ≤ g :=
  ⟨Int.ofNat_lt.mpr (Int.gcd_pos_of_ne_zero_right t (by omega)), Int.le_of_dvd h (Int.gcd_dvd_right t g)⟩
theorem ok_frs {f fY fG : Addr} {fd fdY fdG : FuncData} (F : Fun K "fractions_of_value" "fractions_of_value" sFrs f fd)
    (DY : Dn K mg "shared_by_any" sAny ["tops", "bottom"] fY fdY) (GY : FnOk P w K mg base CX0 2 fY fdY ["tops", "bottom"] spAny)
    (DG : Dn K mg "greatest_divisor" sGd ["number", "other"] fG fdG) (GG : FnOk P w K mg base CX0 1 fG fdG ["number", "other"] spG) : FnOk P w K mg base CX0 3 f fd ["value"] spFrs := by
  refine F.ok scFrs (fun vs H Q E h => ?_) (fun cdv A outer s H vs Q E hr h => ?_)
  · obtain ⟨v, n, c, rfl, _⟩ := h
    rfl
  · obtain ⟨v, n, c, rfl, ⟨p, l, ts, b, rfl, hp, hl, S⟩, hn, hc, q⟩ := h
    have r1 := hr.mono (j := 1) (by decide)
    refine ⟨_, pss_cons (ps_set (i := 1) scFrs.nd rfl (Or.inl rfl) (pe_ix ix_tup (pv 0) pe_int (fun _ _ => rfl)))
      (pss_cons (ps_set (i := 2) scFrs.nd rfl (Or.inl rfl) (pe_fn DY GY hr rfl (pa_cons (pe_ix ix_tup (pv 0) pe_int (fun _ _ => rfl)) (pa_cons (pv 1) pa_nil))))
      (pss_cons (ps_set (i := 3) scFrs.nd rfl (Or.inl rfl) (pe_lst pa_nil))
      (pss_cons (ps_for PassesOwn.never rfl (pi_list (pe_ix ix_tup (pv 0) pe_int (fun _ _ => rfl))) (pg_name (i := 4) scFrs.nd rfl (Or.inl rfl))
        (pss_mid (ps_set (i := 5) scFrs.nd rfl (Or.inl rfl) (pe_ifExp (pt_cmpR op_eq (pv 4) pe_int (nomark _)) (pv 1) (pe_fn DG GG r1 rfl (pa_cons (pv 4) (pa_cons (pv 2) pa_nil)))))
        (pss_one (ps_expr (pe_bm PySem.F.plainAttrs_list PySem.F.slot_list_append PySem.F.type_list_append mt_append (pv 3) (pa_cons (pe_tup (pa_cons (pe_op op_fdivL (pv 4) (pv 5)) (pa_cons (pe_op op_fdivL (pv 1) (pv 5)) pa_nil))) pa_nil))))))
      (pss_one (ps_ret (pv 3)))))), ?_⟩
    have hb : b.natAbs < 2 ^ 9000 := S.bot.mono hc
    have hp0 := S.pos
    refine ⟨_, rfl, p, _, _, _, rfl, rfl, SqT.of hp, rfl, ?_⟩
    refine ⟨_, rfl, p, _, _, _, rfl, rfl, SqT.of hp, rfl, _, rfl, l, ts, b, n, c, rfl, hl, S, hc, fun g g0 g1 => ?_⟩
    refine ⟨Nat.zero_le _, fun D hD => ?_⟩
    have s1 : Same H (L2.upd H D (.lst [])) := Same.upd hD
    have e1 : L2.upd H D (.lst []) D = some (.lst []) := upd_same
    generalize L2.upd H D (.lst []) = H1 at s1 e1 ⊢
    refine ⟨_, rfl, p, _, _, _, rfl, rfl, SqT.of (s1 _ _ hp), rfl, l, rfl, ⟨_, SqL.of (s1 _ _ hl)⟩, for_list (xs := ts.map V.int) (fun i σ H' => ∃ (o4 o5 : Option V) (xs : List V), σ = [some (.ref p), some (.int b), some (.int g), some (.ref D), o4, o5] ∧ Same H H' ∧ H' D = some (.lst xs) ∧ xs.length = i) ⟨none, none, [], rfl, s1, e1, rfl⟩ (fun i σ H' _ ⟨_, _, _, _, s', _⟩ => SqL.of (s' _ _ hl)) ?_ ?_⟩
    · rintro i x σ H2 hx ⟨o4, o5, xs, rfl, s2, e2, lx⟩
      obtain ⟨t, ht, rfl⟩ := map_get hx
      have li : i < n := by rw [← S.len]; exact lt_get ht
      refine ⟨fun σ H3 => ∃ d : Int, σ = [some (.ref p), some (.int b), some (.int g), some (.ref D), some (.int t), some (.int d)] ∧ H3 = H2 ∧ 0 < d ∧ d ≤ b, ?_, ?_⟩
      · refine ⟨_, rfl, rfl, _, rfl, ?_⟩
        by_cases h0 : t = 0
        · exact itDP (by rw [h0]) ⟨_, rfl, b, rfl, rfl, hp0, Int.le_refl _⟩
        · refine itDN (fun z => h0 (V.int.inj z)) ?_
          refine ⟨_, rfl, _, rfl, t, g, rfl, _, rfl, rfl, (G_le2 g0).1, Int.le_trans (G_le2 g0).2 g1⟩
      · rintro σ H3 ⟨d, rfl, rfl, d0, d1⟩
        have cd : ∀ u, CDivL u d := fun u => ⟨by omega, Nat.lt_of_le_of_lt (show d.natAbs ≤ b.natAbs by omega) hb⟩
        refine ⟨_, rfl, .inl ⟨rfl, _, SqL.of e2⟩, _, rfl, _, rfl, _, _, rfl, rfl, cd _, _, rfl, _, rfl, _, _, rfl, rfl, cd _, (by show 2 ≤ sizeLine; decide), fun t' ht' => ?_⟩
        have nD : D ≠ t' := ne_of_none e2 ht'
        refine ⟨D, xs, _, rfl, rfl, by rw [upd_ne nD]; exact e2, small1000 (by omega), ?_⟩
        refine ⟨_, _, xs ++ [.ref t'], rfl, fun b' o e => ?_, upd_same, by rw [List.length_append, lx]; rfl⟩
        rw [upd_ne (ne_of_none e hD)]
        exact (s2.trans (Same.upd ht')) _ _ e
    · rintro σ H2 ⟨o4, o5, xs, rfl, s2, e2, lx⟩
      exact ⟨_, rfl, q D H2 xs s2 e2 (by rw [lx, List.length_map, S.len])⟩
/-! ### total_of_value -/
def spTot : Sp := fun vs H Q _ => ∃ (v : V) (n c : Nat), vs = [v] ∧ VAt H v n c ∧ c ≤ 9000 ∧ ∀ z H', Same H H' → Q z H'
theorem scTot : FnScope ["value"] ["value"] (defScope sTot) := ⟨rfl, rfl, rfl, by decide +kernel, rfl, by decide +kernel, by decide +kernel⟩
theorem ok_tot {f fF : Addr} {fd fdF : FuncData} (B : BltR mg) (F : Fun K "total_of_value" "total_of_value" sTot f fd) (DF : Dn K mg "fraction_of" sFr ["top", "bottom"] fF fdF) (GF : FnOk P w K mg base CX0 2 fF fdF ["top", "bottom"] spF) : FnOk P w K mg base CX0 3 f fd ["value"] spTot := by
  refine F.ok scTot (fun vs H Q E h => ?_) (fun cdv A outer s H vs Q E hr h => ?_)
  · obtain ⟨v, n, c, rfl, _⟩ := h
    rfl
  · obtain ⟨v, n, c, rfl, ⟨p, l, ts, b, rfl, hp, hl, S⟩, hc, q⟩ := h
    have hb : b.natAbs < 2 ^ 9000 := S.bot.mono hc
    have hp0 := S.pos
    refine ⟨_, pss_one (ps_ret (pe_fn DF GF hr rfl (pa_cons (pe_callB (call_sum rfl) (by rfl) B.sum boot_sum (pa_cons (pe_ix ix_tup (pv 0) pe_int (fun _ _ => rfl)) pa_nil)) (pa_cons (pe_ix ix_tup (pv 0) pe_int (fun _ _ => rfl)) pa_nil)))), ?_⟩
    exact ⟨_, rfl, p, _, _, _, rfl, rfl, SqT.of hp, rfl, l, _, rfl, SqL.of hl, _, rfl, p, _, _, _, rfl, rfl, SqT.of hp, rfl, _, _, rfl, by omega, hb, fun p' hp' => q _ _ (Same.upd hp')⟩
end

/-! STEPS: as data, what is due; inner_terms, named_by, NoStep.__init__, look_at_steps -/
section
variable {P : Program} {w : World} {K : PySem.W.Frag} {mg : Str → Option Value} {base : Heap}
inductive Stp where
  | leaf (w : Str)
  | hue
  | turned (i : Int)
  | two (w : Str) (i j : Int)
  | many (i : Int)
def Stp.word : Stp → Str
  | .leaf w => w
  | .hue => "hue"
  | .turned _ => "turned"
  | .two w _ _ => w
  | .many _ => "many"
def Stp.nums : Stp → List Int
  | .leaf _ => []
  | .hue => []
  | .turned i => [i]
  | .two _ i j => [i, j]
  | .many i => [i]
def Stp.dat : Stp → PyData
  | .leaf w => .tuple [.str w]
  | .hue => .tuple [.str "hue", .int 3]
  | .turned i => .tuple [.str "turned", .int i]
  | .two w i j => .tuple [.str w, .int i, .int j]
  | .many i => .tuple [.str "many", .tuple [.int 1, .int 2], .int i]
def Stp.ok : Stp → Prop
  | .leaf w => w = "same" ∨ w = "tie" ∨ w = "all"
  | .two w _ _ => TwoW w
  | _ => True
/-- tuples stay -/
def KeepT (H H' : Hp) : Prop := ∀ b xs, H b = some (.tup xs) → H' b = some (.tup xs)
theorem Same.keepT {H H' : Hp} (s : Same H H') : KeepT H H' := fun b xs e => s _ _ e
theorem KeepT.lst {H : Hp} {a : Addr} {xs ys : List V} (h : H a = some (.lst xs)) : KeepT H (upd H a (.lst ys)) := fun b zs e => by
  rw [upd_ne (fun z => by rw [z, h] at e; cases e)]
  exact e
theorem But.keepT {d : Addr} {H H' : Hp} {n : Nat} (b : But d H H') (D : Drw H d n) : KeepT H H' := fun c xs e => by
  obtain ⟨x, y, z, h, _⟩ := D
  exact b c _ (fun q => by rw [q, h] at e; cases e) e
/-- one step that was written -/
def StH (H : Hp) (v : V) : Stp → Prop
  | .leaf w => ∃ p, v = .ref p ∧ H p = some (.tup [.str w])
  | .hue => ∃ p, v = .ref p ∧ H p = some (.tup [.str "hue", .int 3])
  | .turned i => ∃ p, v = .ref p ∧ H p = some (.tup [.str "turned", .int i])
  | .two w i j => ∃ p, v = .ref p ∧ H p = some (.tup [.str w, .int i, .int j])
  | .many i => ∃ p f, v = .ref p ∧ H p = some (.tup [.str "many", .ref f, .int i]) ∧ H f = some (.tup [.int 1, .int 2])
theorem StH.keep {H H' : Hp} {v : V} {t : Stp} (h : StH H v t) (k : KeepT H H') : StH H' v t := by
  cases t with
  | leaf w => obtain ⟨p, e, h⟩ := h; exact ⟨p, e, k _ _ h⟩
  | hue => obtain ⟨p, e, h⟩ := h; exact ⟨p, e, k _ _ h⟩
  | turned i => obtain ⟨p, e, h⟩ := h; exact ⟨p, e, k _ _ h⟩
  | two w i j => obtain ⟨p, e, h⟩ := h; exact ⟨p, e, k _ _ h⟩
  | many i => obtain ⟨p, f, e, h, h'⟩ := h; exact ⟨p, f, e, k _ _ h, k _ _ h'⟩
inductive StsH (H : Hp) : List V → List Stp → Prop where
  | nil : StsH H [] []
  | cons {v : V} {t : Stp} {vs : List V} {ss : List Stp} (h : StH H v t) (r : StsH H vs ss) : StsH H (v :: vs) (t :: ss)
theorem StsH.keep {H H' : Hp} {vs : List V} {ss : List Stp} (h : StsH H vs ss) (k : KeepT H H') : StsH H' vs ss := by
  induction h with
  | nil => exact .nil
  | cons h r ih => exact .cons (h.keep k) ih
theorem StsH.snoc {H : Hp} {vs : List V} {ss : List Stp} {v : V} {t : Stp} (h : StsH H vs ss) (hv : StH H v t) : StsH H (vs ++ [v]) (ss ++ [t]) := by
  induction h with
  | nil => exact .cons hv .nil
  | cons h r ih => exact .cons h ih
theorem StsH.len {H : Hp} {vs : List V} {ss : List Stp} (h : StsH H vs ss) : vs.length = ss.length := by
  induction h with
  | nil => rfl
  | cons h r ih => rw [List.length_cons, List.length_cons, ih]
theorem StsH.at {H : Hp} {vs : List V} {ss : List Stp} (h : StsH H vs ss) : ∀ (i : Nat) (v : V), vs[i]? = some v → ∃ t, ss[i]? = some t ∧ StH H v t := by
  induction h with
  | nil => intro i v e; simp at e
  | cons h r ih =>
    intro i v e
    match i, e with
    | 0, e => cases e; exact ⟨_, rfl, h⟩
    | i + 1, e => exact ih i v e
theorem st_at {H : Hp} {v : V} {t : Stp} (h : StH H v t) : ∃ p pre, v = .ref p ∧ H p = some (.tup ((.str t.word :: pre) ++ t.nums.map V.int)) ∧ (t = .hue → pre = [.int 3]) ∧ (∀ i, t = .many i → ∃ f, pre = [.ref f] ∧ H f = some (.tup [.int 1, .int 2])) := by
  cases t with
  | leaf w => obtain ⟨p, e, h⟩ := h; exact ⟨p, [], e, h, (fun z => nomatch z), fun i z => nomatch z⟩
  | hue => obtain ⟨p, e, h⟩ := h; exact ⟨p, [.int 3], e, h, (fun _ => rfl), fun i z => nomatch z⟩
  | turned i => obtain ⟨p, e, h⟩ := h; exact ⟨p, [], e, h, (fun z => nomatch z), fun i z => nomatch z⟩
  | two w i j => obtain ⟨p, e, h⟩ := h; exact ⟨p, [], e, h, (fun z => nomatch z), fun i z => nomatch z⟩
  | many i => obtain ⟨p, f, e, h, h'⟩ := h; exact ⟨p, [.ref f], e, h, (fun z => nomatch z), fun i z => ⟨f, rfl, h'⟩⟩
def inTab : List (Str × Int) := [("one", 0), ("hue", 0), ("near", 1), ("both", 2), ("rows", 1), ("same", 0), ("tie", 0), ("all", 0), ("on", 1), ("turned", 1), ("then", 2), ("meet", 2), ("plus", 2), ("many", 1)]
theorem td1 : PyProof.Rows.KTD.datumAt ("same" : Str) inTab = some 0 := by decide +kernel
theorem td2 : PyProof.Rows.KTD.datumAt ("tie" : Str) inTab = some 0 := by decide +kernel
theorem td3 : PyProof.Rows.KTD.datumAt ("all" : Str) inTab = some 0 := by decide +kernel
theorem td4 : PyProof.Rows.KTD.datumAt ("hue" : Str) inTab = some 0 := by decide +kernel
theorem td5 : PyProof.Rows.KTD.datumAt ("turned" : Str) inTab = some 1 := by decide +kernel
theorem td6 : PyProof.Rows.KTD.datumAt ("many" : Str) inTab = some 1 := by decide +kernel
theorem td7 : PyProof.Rows.KTD.datumAt ("then" : Str) inTab = some 2 := by decide +kernel
theorem td8 : PyProof.Rows.KTD.datumAt ("meet" : Str) inTab = some 2 := by decide +kernel
theorem td9 : PyProof.Rows.KTD.datumAt ("plus" : Str) inTab = some 2 := by decide +kernel
theorem tab_word {t : Stp} (h : t.ok) : PyProof.Rows.KTD.datumAt t.word inTab = some (((t.nums.map V.int).length : Nat) : Int) := by
  cases t with
  | leaf w => rcases (show w = "same" ∨ w = "tie" ∨ w = "all" from h) with rfl | rfl | rfl; exact td1; exact td2; exact td3
  | hue => exact td4
  | turned i => exact td5
  | two w i j => rcases (show w = "plus" ∨ w = "then" ∨ w = "meet" from h) with rfl | rfl | rfl; exact td9; exact td7; exact td8
  | many i => exact td6
/-! ### inner_terms, named_by -/
def spInner (K : PySem.W.Frag) : Sp := fun vs H Q _ => ∃ (v : V) (t : Stp), vs = [v] ∧ t.ok ∧ StH H v t ∧ ∀ q H', Same H H' → H' q = some (.tup (t.nums.map V.int)) → Q (.ref q) H'
theorem scInner : FnScope ["term"] ["term"] (defScope sInner) := ⟨rfl, rfl, rfl, by decide +kernel, rfl, by decide +kernel, by decide +kernel⟩
theorem ok_inner {f aT : Addr} {fd : FuncData} (B : BltR mg) (hG : mg "INNER_TERMS" = some (.ref aT)) (TB : TabK K aT inTab) (F : Fun K "inner_terms" "inner_terms" sInner f fd) : FnOk P w K mg base CX0 1 f fd ["term"] (spInner K) := by
  refine F.ok scInner (fun vs H Q E h => ?_) (fun cdv A outer s H vs Q E hr h => ?_)
  · obtain ⟨v, t, rfl, _⟩ := h
    rfl
  · obtain ⟨v, t, rfl, tk, hT, q⟩ := h
    obtain ⟨p, pre, rfl, hp', _, _⟩ := st_at hT
    have hp : SqT K H p _ := SqT.of hp'
    clear hp'
    refine ⟨_, pss_one (ps_ret (pe_slice sl_tup (pv 0) (po_some (pe_op op_sub (pe_callB call_len_seq (by rfl) B.len PySem.boot_len (pa_cons (pv 0) pa_nil)) (pe_ix (ix_tab TB) (pe_glob (v := .ref aT) rfl hG rfl) (pe_ix ix_tup (pv 0) pe_int (fun _ _ => rfl)) (fun _ _ => rfl)))) po_none)), ?_⟩
    have hw := tab_word tk
    generalize t.nums.map V.int = ks at hp hw q
    generalize t.word = wd at hp hw
    have e : ((((V.str wd :: pre) ++ ks).length : Nat) : Int) - ((ks.length : Nat) : Int) = (((V.str wd :: pre).length : Nat) : Int) := by
      rw [List.length_append]; omega
    refine ⟨_, rfl, _, rfl, p, _, rfl, .inr hp, _, rfl, p, _, _, _, rfl, rfl, hp, at_hd _ _, _, _, rfl, rfl, hw, _, _, rfl, rfl, _, rfl, p, _, rfl, hp, ?_, fun q' hq' => ?_⟩
    · rintro ⟨h1, _⟩
      have h1' : HT.sIx ((V.str wd :: pre) ++ ks).length 0 (some (((((V.str wd :: pre) ++ ks).length : Nat) : Int) - ((ks.length : Nat) : Int))) = 0 := h1
      rw [e, HT.sIx_nat, List.length_append, List.length_cons] at h1'
      omega
    · have e2 : cutV ((V.str wd :: pre) ++ ks) (some (((((V.str wd :: pre) ++ ks).length : Nat) : Int) - ((ks.length : Nat) : Int))) none = ks := by rw [e]; exact cut_behind _ _
      have := q q' (L2.upd H q' (.tup ks)) (Same.upd hq') upd_same
      rw [← e2] at this
      exact this
theorem scNamed : FnScope ["step"] ["step"] (defScope sNamed) := ⟨rfl, rfl, rfl, by decide +kernel, rfl, by decide +kernel, by decide +kernel⟩
theorem ok_named {f fI : Addr} {fd fdI : FuncData} (F : Fun K "named_by" "named_by" sNamed f fd) (DI : Dn K mg "inner_terms" sInner ["term"] fI fdI) (GI : FnOk P w K mg base CX0 1 fI fdI ["term"] (spInner K)) : FnOk P w K mg base CX0 2 f fd ["step"] (spInner K) := by
  refine F.ok scNamed (fun vs H Q E h => ?_) (fun cdv A outer s H vs Q E hr h => ?_)
  · obtain ⟨v, t, rfl, _⟩ := h
    rfl
  · obtain ⟨v, t, rfl, tk, hT, q⟩ := h
    exact ⟨_, pss_one (ps_ret (pe_fn DI GI hr rfl (pa_cons (pv 0) pa_nil))), _, rfl, v, t, rfl, tk, hT, q⟩
/-! ### what is due -/
def wrong (k : Nat) (i : Int) : Bool := decide (i < 0) || decide ((k : Int) ≤ i)
def badAt (k : Nat) (t : Stp) : Bool := t.nums.any (wrong k)
def bad (ss : List Stp) (k : Nat) : Bool := match ss[k]? with
  | some t => badAt k t
  | none => false
def due (ss : List Stp) : Option Nat := (List.range ss.length).find? (bad ss)
theorem due_at {ss : List Stp} {u : Nat} {t : Stp} (h : ss[u]? = some t) (h1 : badAt u t = true) (h2 : ∀ v < u, bad ss v = false) : due ss = some u := by
  unfold due
  rw [List.find?_range_eq_some]
  refine ⟨by unfold bad; rw [h]; exact h1, List.mem_range.mpr (lt_get h), fun j hj => by rw [h2 j hj]; rfl⟩
theorem due_end {ss : List Stp} (h : ∀ v < ss.length, bad ss v = false) : due ss = none := by
  unfold due
  rw [List.find?_range_eq_none]
  exact fun j hj => by rw [h j hj]; rfl
theorem due_none {ss : List Stp} (h : due ss = none) {k : Nat} {t : Stp} (e : ss[k]? = some t) : ∀ i ∈ t.nums, 0 ≤ i ∧ i < (k : Int) := by
  unfold due at h
  rw [List.find?_range_eq_none] at h
  have := h k (lt_get e)
  unfold bad at this
  rw [e] at this
  intro i hi
  have h2 : badAt k t = false := by simpa using this
  unfold badAt at h2
  rw [List.any_eq_false] at h2
  have h3 := h2 i hi
  unfold wrong at h3
  simp only [Bool.or_eq_true, decide_eq_true_eq, not_or] at h3
  omega
/-- steps on the heap -/
def StsAt (H : Hp) (a : Addr) (ss : List Stp) : Prop := ∃ vs, H a = some (.lst vs) ∧ StsH H vs ss
theorem StsAt.mono {H H' : Hp} {a : Addr} {ss : List Stp} (h : StsAt H a ss) (s : Same H H') : StsAt H' a ss := by
  obtain ⟨vs, h1, h2⟩ := h
  exact ⟨vs, s _ _ h1, h2.keep (Same.keepT s)⟩
/-! ### NoStep.__init__ -/
def spInit (CW : Addr) : Sp := fun vs H Q _ => ∃ (x : Addr) (u : Nat), vs = [.ref x, .int (u : Int)] ∧ H x = some (rawHO x CW none) ∧ u ≤ 12 ∧ ∀ dx, H dx = none → dx ≠ x → Q .non (upd (upd H dx (.xd [("place", .int (u : Int))])) x (rawHO x CW (some dx)))
abbrev nInit : List Str := ["self", "place"]
theorem scInit : FnScope nInit nInit (defScope sInit) := ⟨rfl, rfl, rfl, by decide +kernel, rfl, by decide +kernel, by decide +kernel⟩
theorem upd_id {H : Hp} {a : Addr} {o : HO} (h : H a = some o) : upd H a o = H := by
  funext b
  by_cases hb : b = a
  · subst hb; rw [upd_same, h]
  · rw [upd_ne hb]
theorem small_place {u : Nat} (h : u ≤ 12) : (u : Int).natAbs.log2 < 1920 := by
  match u, h with
  | 0, _ => decide
  | 1, _ => decide
  | 2, _ => decide
  | 3, _ => decide
  | 4, _ => decide
  | 5, _ => decide
  | 6, _ => decide
  | 7, _ => decide
  | 8, _ => decide
  | 9, _ => decide
  | 10, _ => decide
  | 11, _ => decide
  | 12, _ => decide
theorem msg_fits {u : Nat} (h : u ≤ 12) : (Str.empty ++ Str.ofString "no reckoning: step ").length ≤ sizeLine ∧ (Str.empty ++ Str.ofString "no reckoning: step " ++ Str.ofString (toString (u : Int))).length ≤ sizeLine ∧ (Str.empty ++ Str.ofString "no reckoning: step " ++ Str.ofString (toString (u : Int)) ++ Str.ofString " names no earlier step").length ≤ sizeLine := by
  match u, h with
  | 0, _ => decide +kernel
  | 1, _ => decide +kernel
  | 2, _ => decide +kernel
  | 3, _ => decide +kernel
  | 4, _ => decide +kernel
  | 5, _ => decide +kernel
  | 6, _ => decide +kernel
  | 7, _ => decide +kernel
  | 8, _ => decide +kernel
  | 9, _ => decide +kernel
  | 10, _ => decide +kernel
  | 11, _ => decide +kernel
  | 12, _ => decide +kernel
theorem ok_init {f CW CK : Addr} {fd : FuncData} (Z : ExcI K CW CK f) (BI : BInit K CK) (hK : mg "KinError" = some (.ref CK)) (hp : PySem.W.findIn K (.ref CW) "place" = some none) (F : Fun K "__init__" "NoStep.__init__" sInit f fd) : FnOk P w K mg base CX0 1 f fd nInit (spInit CW) := by
  refine F.ok scInit (fun vs H Q E h => ?_) (fun cdv A outer s H vs Q E hr h => ?_)
  · obtain ⟨x, u, rfl, _⟩ := h
    rfl
  · obtain ⟨x, u, rfl, hx, hu, q⟩ := h
    refine ⟨_, pss_cons (ps_expr (pe_binit Z BI rfl hK (pa_cons (pv 0) (pa_cons (pe_joined (pj_cons pe_str (pj_cons (pe_fmtI (pv 1)) (pj_cons pe_str pj_nil)))) pa_nil))))
      (pss_one (ps_setX Z hp (pv 0) (pv 1))), ?_⟩
    obtain ⟨m1, m2, m3⟩ := msg_fits hu
    refine ⟨_, rfl, _, rfl, m1, _, rfl, (u : Int), rfl, small_place hu, _, rfl, m2, _, rfl, m3, m3, x, _, rfl, hx, (by show 1 ≤ sizeLine; decide), ?_⟩
    rw [upd_id hx]
    exact ⟨_, rfl, _, rfl, x, rfl, hx, q⟩
/-! ### look_at_steps -/
def EOk (CS : Addr) (ss : List Stp) (H : Hp) (E : XK) : Prop := ∀ u, due ss = some u → ∀ H' dx, Same H H' → H' dx = none → E (.ref CS) (some dx) (upd H' dx (.xd [("place", .int (u : Int))]))
def spLook (K : PySem.W.Frag) (CS : Addr) : Sp := fun vs H Q E => ∃ (a : Addr) (ss : List Stp), vs = [.ref a] ∧ StsAt H a ss ∧ ss.length ≤ 12 ∧ (∀ t ∈ ss, t.ok) ∧ (due ss = none → ∀ H', Same H H' → Q .non H') ∧ EOk CS ss H E
abbrev nLook : List Str := ["steps", "place", "step", "number"]
theorem scLook : FnScope nLook ["steps"] (defScope sLook) := ⟨rfl, rfl, rfl, by decide +kernel, rfl, by decide +kernel, by decide +kernel⟩
theorem del_back {H : Hp} {x dx : Addr} {o o1 o2 : HO} (hx : H x = none) (hd : dx ≠ x) : del (upd (upd (upd H x o1) dx o) x o2) x = upd H dx o := by
  rw [del_upd, del_comm hd, del_upd, del_new hx]
theorem ok_look {f fN fI CS CK : Addr} {fd fdN fdI : FuncData} (B : BltR mg) (Z : ExcI K CS CK fI) (kp : PySem.W.keepIn K (.ref CS) = true) (hS : mg "NoStep" = some (.ref CS)) (bI : Binds K fdI nInit []) (GI : FnOk P w K mg base CX0 1 fI fdI nInit (spInit CS))
    (F : Fun K "look_at_steps" "look_at_steps" sLook f fd) (DN : Dn K mg "named_by" sNamed ["step"] fN fdN) (GN : FnOk P w K mg base CX0 2 fN fdN ["step"] (spInner K)) : FnOk P w K mg base (CXd P w) 3 f fd ["steps"] (spLook K CS) := by
  refine F.okD scLook (fun vs H Q E h => ?_) (fun cdv A outer s H vs Q E hr h => ?_)
  · obtain ⟨a, ss, rfl, _⟩ := h
    rfl
  · obtain ⟨a, ss, rfl, ⟨vs, ha, hd⟩, hl, hok, q1, q2⟩ := h
    refine ⟨_, pss_one (ps_for PassesOwn.leaving rfl (pi_enum rfl B.enum (pa_cons (pv 0) pa_nil)) (pg_tup rfl (pgs_cons (pg_name (i := 1) scLook.nd rfl (Or.inl rfl)) (pgs_cons (pg_name (i := 2) scLook.nd rfl (Or.inl rfl)) pgs_nil)))
      (pss_one (ps_for PassesOwn.leaving rfl (pi_tup (pe_fn DN GN hr rfl (pa_cons (pv 2) pa_nil))) (pg_name (i := 3) scLook.nd rfl (Or.inl rfl))
        (pss_one (ps_if (PW.pt (pw_or (pt_cmpR op_lt (pv 3) pe_int (nomark _)) (pw_or1 (pt_cmpR op_ge (pv 3) (pv 1) (nomark _)))))
          (pss_one (ps_raiseE rfl Z.w (pe_makeX Z kp GI hr bI rfl hS (pa_cons (pv 1) pa_nil)) raise_okD)) pss_nil))))), ?_⟩
    have lv := hd.len
    refine ⟨_, rfl, a, rfl, ⟨_, SqL.of ha⟩, for_enum (K := K) (xs := vs) (fun i σ H' => ∃ (o1 o2 o3 : Option V), σ = [some (.ref a), o1, o2, o3] ∧ Same H H' ∧ ∀ k < i, bad ss k = false) ?_ ?_ ?_ ?_⟩
    · exact ⟨none, none, none, rfl, Same.refl _, fun k hk => absurd hk (Nat.not_lt_zero _)⟩
    · rintro i σ H' _ ⟨o1, o2, o3, rfl, s', _⟩
      exact SqL.of (s' _ _ ha)
    · rintro i x t σ H' hx ⟨o1, o2, o3, rfl, s', hg⟩ ht
      obtain ⟨st, hst, dx⟩ := hd.at i x hx
      have li := lt_get hst
      refine ⟨t, _, rfl, SqT.of upd_same, rfl, _, _, rfl, _, _, rfl, rfl, ?_⟩
      have s2 : Same H (upd H' t (.tup [.int (i : Int), x])) := s'.trans (Same.upd ht)
      generalize upd H' t (.tup [.int (i : Int), x]) = H2 at s2 ⊢
      refine ⟨_, rfl, x, st, rfl, hok st (List.mem_of_getElem? hst), dx.keep (Same.keepT s2), fun q H3 s3 eq => ?_⟩
      have s03 := s2.trans s3
      refine ⟨q, rfl, ⟨_, SqT.of eq⟩, for_tup (K := K) (xs := st.nums.map V.int) (fun j σ H'' => ∃ o3 : Option V, σ = [some (.ref a), some (.int (i : Int)), some x, o3] ∧ H'' = H3 ∧ ∀ y ∈ st.nums.take j, wrong i y = false) ?_ ?_ ?_ ?_⟩
      · exact ⟨_, rfl, rfl, fun y hy => by simp at hy⟩
      · rintro j σ H'' _ ⟨o3, _, rfl, _⟩
        exact SqT.of eq
      · rintro j z σ H'' hz ⟨o3, rfl, rfl, hw⟩
        obtain ⟨y, hy, rfl⟩ := map_get hz
        have raise : wrong i y = true → ∀ x', H'' x' = none → ∀ dx', upd H'' x' (rawHO x' CS none) dx' = none → dx' ≠ x' → E (.ref CS) (some dx') (upd H'' dx' (.xd [("place", .int (i : Int))])) := fun hwr x' hx' dx' hdx' hne => by
          refine q2 i (due_at hst ?_ hg) H'' dx' s03 (by rw [upd_ne hne] at hdx'; exact hdx')
          unfold badAt
          rw [List.any_eq_true]
          exact ⟨y, List.mem_of_getElem? hy, hwr⟩
        have fin : wrong i y = true → ∀ x', H'' x' = none → (spInit CS) [.ref x', .int (i : Int)] (upd H'' x' (rawHO x' CS none)) (fun v H2 => v = .non ∧ ∃ a dd, (V.ref x') = .ref a ∧ H2 a = some (rawHO a CS dd) ∧ H a = none ∧ E (.ref CS) dd (del H2 a)) E0 := fun hwr x' hx' =>
          ⟨x', i, rfl, upd_same, by omega, fun dx' hdx' hne => ⟨rfl, x', some dx', rfl, upd_same, s03.free hx', by rw [del_back hx' hne]; exact raise hwr x' hx' dx' hdx' hne⟩⟩
        refine ⟨_, rfl, _, _, rfl, rfl, _, rfl, ?_⟩
        by_cases h0 : y < 0
        · refine itDP h0 (iteT ?_)
          exact ⟨_, rfl, (by show 1 ≤ sizeLine; decide), fin (by unfold wrong; rw [decide_eq_true h0]; rfl)⟩
        · refine itDN h0 ?_
          refine ⟨_, rfl, _, rfl, _, _, rfl, rfl, _, rfl, ?_⟩
          by_cases h1 : y ≥ (i : Int)
          · refine itDP h1 ?_
            exact ⟨_, rfl, (by show 1 ≤ sizeLine; decide), fin (by unfold wrong; rw [decide_eq_true (show (i : Int) ≤ y from h1), Bool.or_true])⟩
          · refine itDN h1 ⟨_, rfl, rfl, fun y' hy' => ?_⟩
            rw [take_snoc hy] at hy'
            rcases List.mem_append.mp hy' with hy' | hy'
            · exact hw y' hy'
            · rw [List.mem_singleton.mp hy']
              unfold wrong
              rw [decide_eq_false h0, decide_eq_false (show ¬ (i : Int) ≤ y from h1)]
              rfl
      · rintro σ H'' ⟨o3, rfl, rfl, hw⟩
        refine ⟨_, _, _, rfl, s03, fun k hk => ?_⟩
        by_cases hk' : k = i
        · subst hk'
          unfold bad
          rw [hst]
          show badAt k st = false
          unfold badAt
          rw [List.any_eq_false]
          rw [List.length_map, List.take_length] at hw
          exact fun y hy => by rw [hw y hy]; exact Bool.false_ne_true
        · exact hg k (by omega)
    · rintro σ H' ⟨o1, o2, o3, rfl, s', hg⟩
      exact q1 (due_end fun k hk => hg k (by omega)) H' s'
end

/-! value_of_step, values_of_steps, tables_of_steps, steps_total -/
section
variable {P : Program} {w : World} {K : PySem.W.Frag} {mg : Str → Option Value} {base : Heap}
theorem lc_valsT {a : Addr} {xs : List V} {te : TE} {Q : Hp → Prop} {σ : L2.St} {H1 : Hp} {D : Addr} (vs : List V) (hlen : vs.length = xs.length) (hm : xs.length ≤ 900) (hD : H1 D = none) (hxs : SqT K H1 a xs)
    (hs : ∀ (i : Nat) (x v : V) (H' : Hp), xs[i]? = some x → vs[i]? = some v → Same H1 H' → te (σ ++ [some x]) H' fun u H3 => u = v ∧ Same H' H3)
    (hd : ∀ H', Same H1 H' → H' D = some (.lst vs) → Q H')
    (mono : ∀ σ H Q Q', (∀ v H1, Q v H1 → Q' v H1) → te σ H Q → te σ H Q') :
    ∃ W : Nat → Nat → List V → Hp → Prop, (∃ m, W 0 m [] (upd H1 D (.lst []))) ∧
      ∀ i m ys H', W i m ys H' → H' D = some (.lst ys) ∧ (((Itt K a).stop i H' ∧ Q H') ∨ ((Itt K a).go i H' ∧ ∀ z H2, (Itt K a).yld i H' z H2 → te (σ ++ [some z]) H2 fun v H3 => H3 D = some (.lst ys) ∧ ys.length < sizeLine ∧ ∃ m', m' < m ∧ W (i + 1) m' (ys ++ [v]) (upd H3 D (.lst (ys ++ [v]))))) := by
  refine lc_tup (xs := xs) (fun i ys H' => ys = vs.take i ∧ Same H1 H' ∧ H' D = some (.lst ys)) ⟨by rw [List.take_zero], Same.upd hD, upd_same⟩ (fun i ys H' _ ⟨_, sm, eD⟩ => ⟨Same.seqT sm hxs, eD⟩) ?_ ?_ mono
  · rintro i x ys H4 hx ⟨rfl, s4, eD⟩
    have hi : i < vs.length := by rw [hlen]; exact (List.getElem?_eq_some_iff.mp hx).1
    have hv : vs[i]? = some vs[i] := List.getElem?_eq_getElem hi
    refine mono _ _ _ _ ?_ (hs i x vs[i] H4 hx hv s4)
    rintro u H5 ⟨rfl, s5⟩
    refine ⟨s5 _ _ eD, small1000 (by rw [List.length_take]; omega), by rw [take_snoc hv], fun b o e => ?_, upd_same⟩
    rw [upd_ne (ne_of_none e hD)]
    exact s5 _ _ (s4 _ _ e)
  · rintro ys H4 ⟨rfl, s4, eD⟩
    rw [← hlen, List.take_length] at eD
    exact hd H4 s4 eD
/-- how long the numbers of the step k can be -/
def cB (k : Nat) : Nat := 4 * 2 ^ k - 1
theorem cB_succ (k : Nat) : cB (k + 1) = 2 * cB k + 1 := by
  unfold cB
  have : 0 < 2 ^ k := Nat.pow_pos (by decide)
  rw [Nat.pow_succ]
  omega
theorem cB_mono {i k : Nat} (h : i ≤ k) : cB i ≤ cB k := by
  unfold cB
  have := Nat.pow_le_pow_right (show 0 < 2 by decide) h
  omega
theorem cB_most {k : Nat} (h : k ≤ 11) : cB k ≤ 9000 := Nat.le_trans (cB_mono h) (by decide)
theorem cB_pos (k : Nat) : 3 ≤ cB k := Nat.le_trans (show 3 ≤ cB 0 by decide) (cB_mono (Nat.zero_le k))
/-- values of the steps ahead -/
def ValsAt (H : Hp) (vals : List V) : Prop := ∀ (i : Nat) (v : V), vals[i]? = some v → VAt H v 4 (cB i)
theorem ValsAt.mono {H H' : Hp} {vals : List V} (h : ValsAt H vals) (s : Same H H') : ValsAt H' vals := fun i v e => (h i v e).mono s
def pick (vals : List V) (ns : List Int) : List V := ns.map fun i => (vals[i.toNat]?).getD .non
theorem pick_one {H : Hp} {vals : List V} {k : Nat} (hV : ValsAt H vals) (lv : vals.length = k + 1) {i : Int} (h0 : 0 ≤ i) (h1 : i < ((k + 1 : Nat) : Int)) : VAt H ((vals[i.toNat]?).getD .non) 4 (cB k) := by
  obtain ⟨v, hv⟩ := get_lt (l := vals) (i := i.toNat) (by omega)
  rw [hv]
  exact (hV _ _ hv).more (cB_mono (by omega))
theorem bk_of {H : Hp} {vals : List V} {t : Stp} {pre : List V} (tk : t.ok) (hV : ValsAt H vals) (hk : vals.length ≤ 11) (hn : ∀ i ∈ t.nums, 0 ≤ i ∧ i < ((vals.length : Nat) : Int)) (h3 : t = .hue → pre = [.int 3]) (h4 : ∀ i, t = .many i → ∃ f, pre = [.ref f] ∧ SqT K H f [.int 1, .int 2]) :
    ∃ n c, BK K H t.word (pre ++ t.nums.map V.int) (pick vals t.nums) n c ∧ ((t.word = "hue" ∧ n = 2 ∧ c = 3) ∨ (t.word ≠ "hue" ∧ n = 4 ∧ c ≤ cB vals.length)) := by
  have few : ∀ i : Int, 0 ≤ i → i < ((vals.length : Nat) : Int) → ∃ k, vals.length = k + 1 := fun i h0 h1 => ⟨vals.length - 1, by omega⟩
  cases t with
  | leaf w =>
    refine ⟨4, 3, .leaf (.inr ⟨tk, rfl⟩), .inr ⟨?_, rfl, cB_pos _⟩⟩
    rcases (show w = "same" ∨ w = "tie" ∨ w = "all" from tk) with rfl | rfl | rfl <;> decide +kernel
  | hue =>
    rw [h3 rfl]
    exact ⟨2, 3, .leaf (.inl ⟨rfl, ⟨3, rfl⟩, rfl⟩), .inl ⟨rfl, rfl, rfl⟩⟩
  | turned i =>
    obtain ⟨a1, a2⟩ := hn i (by simp [Stp.nums])
    obtain ⟨k, lk⟩ := few i a1 a2
    rw [lk] at a2
    refine ⟨4, cB k, BK.one (b := false) (pick_one hV lk a1 a2), .inr ⟨show ("turned" : Str) ≠ "hue" by decide +kernel, rfl, ?_⟩⟩
    rw [lk]
    exact cB_mono (by omega)
  | two w i j =>
    obtain ⟨a1, a2⟩ := hn i (by simp [Stp.nums])
    obtain ⟨b1, b2⟩ := hn j (by simp [Stp.nums])
    obtain ⟨k, lk⟩ := few i a1 a2
    rw [lk] at a2 b2 hk
    have e := cB_succ k
    have m := cB_most (k := k + 1) hk
    refine ⟨4, 2 * cB k + 1, BK.two tk (pick_one hV lk a1 a2) (pick_one hV lk b1 b2) (by omega), .inr ⟨?_, rfl, ?_⟩⟩
    · show w ≠ "hue"
      rcases (show w = "plus" ∨ w = "then" ∨ w = "meet" from tk) with rfl | rfl | rfl <;> decide +kernel
    · rw [lk, e]
      exact Nat.le_refl _
  | many i =>
    obtain ⟨a1, a2⟩ := hn i (by simp [Stp.nums])
    obtain ⟨k, lk⟩ := few i a1 a2
    rw [lk] at a2 hk
    have e := cB_succ k
    have m := cB_most (k := k + 1) hk
    obtain ⟨f, rfl, hf⟩ := h4 i rfl
    refine ⟨4, cB k + 1, BK.many hf (pick_one hV lk a1 a2) (by omega), .inr ⟨show ("many" : Str) ≠ "hue" by decide +kernel, rfl, ?_⟩⟩
    rw [lk, e]
    omega
theorem nums_len (t : Stp) : t.nums.length ≤ 2 := by
  cases t <;> simp [Stp.nums]
/-! ### value_of_step -/
def spValStep (K : PySem.W.Frag) : Sp := fun vs H Q _ => ∃ (wA R : Addr) (v : V) (t : Stp) (vals : List V), vs = [.ref wA, v, .ref R] ∧ WebK H wA ∧ t.ok ∧ StH H v t ∧ H R = some (.lst vals) ∧ ValsAt H vals ∧ vals.length ≤ 11 ∧ (∀ i ∈ t.nums, 0 ≤ i ∧ i < ((vals.length : Nat) : Int)) ∧
  ∀ z H', Same H H' → VAt H' z 4 (cB vals.length) → Q z H'
abbrev nValStep : List Str := ["web", "step", "values", "value"]
abbrev aValStep : List Str := ["web", "step", "values"]
theorem scValStep : FnScope nValStep aValStep (defScope sValStep) := ⟨rfl, rfl, rfl, by decide +kernel, rfl, by decide +kernel, by decide +kernel⟩
theorem lcValStep : LcScopes (defScope sValStep) nValStep (lcScope (argAt (asgVal (bodyAt sValStep 0)) 2)) ["number"] := ⟨by decide +kernel, rfl, by decide +kernel, by decide +kernel, by decide +kernel, by decide +kernel, by decide +kernel, by decide +kernel, by decide +kernel, by decide +kernel⟩
theorem ok_valStep {f fN fK : Addr} {fd fdN fdK : FuncData} (F : Fun K "value_of_step" "value_of_step" sValStep f fd) (DN : Dn K mg "named_by" sNamed ["step"] fN fdN) (GN : FnOk P w K mg base CX0 2 fN fdN ["step"] (spInner K))
    (DK : Dn K mg "value_by_kind" sByKind ["web", "term", "inner_values"] fK fdK) (GK : FnOk P w K mg base CX0 6 fK fdK ["web", "term", "inner_values"] (spByKind K)) : FnOk P w K mg base CX0 7 f fd aValStep (spValStep K) := by
  refine F.ok scValStep (fun vs H Q E h => ?_) (fun cdv A outer s H vs Q E hr h => ?_)
  · obtain ⟨wA, R, v, t, vals, rfl, _⟩ := h
    rfl
  · obtain ⟨wA, R, v, t, vals, rfl, hW, tk, hT, eR, hV, hk, hn, q⟩ := h
    have r2 := hr.mono (j := 2) (by decide)
    obtain ⟨p, pre, rfl, hp', h3, h4'⟩ := st_at hT
    have hp : SqT K H p _ := SqT.of hp'
    have h4 : ∀ i, t = .many i → ∃ f, pre = [.ref f] ∧ SqT K H f [.int 1, .int 2] := fun i e => by obtain ⟨f', e1, e2⟩ := h4' i e; exact ⟨f', e1, SqT.of e2⟩
    clear hp' h4'
    refine ⟨_, pss_cons (ps_set (i := 3) scValStep.nd rfl (Or.inl rfl) (pe_fn DK GK hr rfl (pa_cons (pv 0) (pa_cons (pv 1) (pa_cons (pe_lc1 rfl lcValStep rfl (pi_tup (pe_fn DN GN r2 rfl (pa_cons (pv 1) pa_nil))) (fun _ _ _ => pe_ix (ix_listK (K := K)) (pv 2) (pv 4) (fun _ _ => rfl))) pa_nil)))))
      (pss_one (ps_ret (pe_ifExp (pt_cmpR op_eq (pe_ix ix_tup (pv 1) pe_int (fun _ _ => rfl)) pe_str (nomark _)) (pe_fn DK GK hr rfl (pa_cons (pv 0) (pa_cons (pe_tup (pa_cons pe_str (pa_cons (pv 1) pa_nil))) (pa_cons (pe_lst (pa_cons (pv 3) pa_nil)) pa_nil)))) (pv 3)))), ?_⟩
    refine ⟨_, rfl, _, rfl, _, rfl, .ref p, t, rfl, tk, hT, fun q' H1 s1 eq => ⟨q', rfl, ⟨_, SqT.of eq⟩, fun D hD => ?_⟩⟩
    refine lc_valsT (pick vals t.nums) (by unfold pick; rw [List.length_map, List.length_map]) (by rw [List.length_map]; exact Nat.le_trans (nums_len t) (by decide)) hD (SqT.of eq) ?_ ?_ ?_
    · intro i x v' H' hx hv s'
      obtain ⟨y, hy, rfl⟩ := map_get hx
      obtain ⟨y', hy', rfl⟩ := map_get hv
      rw [hy] at hy'
      cases hy'
      obtain ⟨b1, b2⟩ := hn y (List.mem_of_getElem? hy)
      obtain ⟨z, hz⟩ := get_lt (l := vals) (i := y.toNat) (by omega)
      have ey : y = ((y.toNat : Nat) : Int) := by omega
      refine ⟨_, rfl, _, rfl, R, _, y, z, rfl, rfl, SqL.of (s' _ _ (s1 _ _ eR)), ?_, ?_, Same.refl _⟩
      · rw [ey]
        exact atI_nat hz
      · rw [hz]
        rfl
    · intro H2 s2 eD
      have s02 := s1.trans s2
      obtain ⟨n, c, hB, hc⟩ := bk_of (K := K) (H := H2) (pre := pre) tk (hV.mono s02) hk hn h3 (fun i e => by obtain ⟨f', e1, e2⟩ := h4 i e; exact ⟨f', e1, s02.seqT e2⟩)
      refine ⟨wA, p, D, t.word, _, _, n, c, rfl, hW.mono s02, s02.seqT hp, eD, hB, fun z H3 s3 hz => ?_⟩
      have s03 := s02.trans s3
      refine ⟨_, rfl, p, _, _, _, rfl, rfl, s03.seqT hp, at_hd _ _, rfl, _, rfl, ?_⟩
      rcases hc with ⟨hw, rfl, rfl⟩ | ⟨hw, rfl, hc⟩
      · refine itDP (by rw [hw]) ?_
        refine ⟨_, rfl, _, rfl, (by show 2 ≤ sizeLine; decide), fun p2 hp2 => ?_⟩
        have s4 : Same H3 (L2.upd H3 p2 (.tup [.str "on", .ref p])) := Same.upd hp2
        have e4 : L2.upd H3 p2 (.tup [.str "on", .ref p]) p2 = some (.tup [.str "on", .ref p]) := upd_same
        generalize L2.upd H3 p2 (.tup [.str "on", .ref p]) = H4 at s4 e4 ⊢
        refine ⟨_, rfl, (by show 1 ≤ sizeLine; decide), fun l2 hl2 => ?_⟩
        have s5 : Same H4 (L2.upd H4 l2 (.lst [z])) := Same.upd hl2
        have e5 : L2.upd H4 l2 (.lst [z]) l2 = some (.lst [z]) := upd_same
        generalize L2.upd H4 l2 (.lst [z]) = H5 at s5 e5 ⊢
        have s05 := (s03.trans s4).trans s5
        refine ⟨wA, p2, l2, "on", _, _, 4, 3, rfl, hW.mono s05, SqT.of (s5 _ _ e4), e5, BK.one (b := true) (hz.mono (s4.trans s5)), fun z' H6 s6 hz' => ?_⟩
        exact q z' H6 (s05.trans s6) (hz'.more (cB_pos _))
      · refine itDN (sne hw) ?_
        exact ⟨_, rfl, q z H3 s03 (hz.more hc)⟩
    · rintro σ H' Q1 Q2 hq ⟨v, e, v', e', a1, a2, a3, a4, a5, a6, a7, a8, g⟩
      exact ⟨v, e, v', e', a1, a2, a3, a4, a5, a6, a7, a8, hq _ _ g⟩
/-! ### values_of_steps -/
def spVals (K : PySem.W.Frag) (CS : Addr) : Sp := fun vs H Q E => ∃ (wA a : Addr) (ss : List Stp), vs = [.ref wA, .ref a] ∧ WebK H wA ∧ StsAt H a ss ∧ ss.length ≤ 12 ∧ (∀ t ∈ ss, t.ok) ∧
  (due ss = none → ∀ R vals H', Same H H' → H' R = some (.lst vals) → vals.length = ss.length → ValsAt H' vals → Q (.ref R) H') ∧ EOk CS ss H E
abbrev nVals : List Str := ["web", "steps", "values", "step"]
theorem scVals : FnScope nVals ["web", "steps"] (defScope sVals) := ⟨rfl, rfl, rfl, by decide +kernel, rfl, by decide +kernel, by decide +kernel⟩
theorem ok_vals {f fL fV CS : Addr} {fd fdL fdV : FuncData} (F : Fun K "values_of_steps" "values_of_steps" sVals f fd) (DL : Dn K mg "look_at_steps" sLook ["steps"] fL fdL) (GL : FnOk P w K mg base (CXd P w) 3 fL fdL ["steps"] (spLook K CS))
    (DV : Dn K mg "value_of_step" sValStep aValStep fV fdV) (GV : FnOk P w K mg base CX0 7 fV fdV aValStep (spValStep K)) : FnOk P w K mg base (CXd P w) 8 f fd ["web", "steps"] (spVals K CS) := by
  refine F.okD scVals (fun vs H Q E h => ?_) (fun cdv A outer s H vs Q E hr h => ?_)
  · obtain ⟨wA, a, ss, rfl, _⟩ := h
    rfl
  · obtain ⟨wA, a, ss, rfl, hW, ⟨vs, ha, hd⟩, hl, hok, q1, q2⟩ := h
    have r3 := hr.mono (j := 3) (by decide)
    refine ⟨_, pss_cons (ps_expr (pe_fnX DL GL pass_okD r3 rfl (pa_cons (pv 1) pa_nil)))
      (pss_cons (ps_set (i := 2) scVals.nd rfl (Or.inl rfl) (pe_lst pa_nil))
      (pss_cons (ps_for PassesOwn.leaving rfl (pi_list (pv 1)) (pg_name (i := 3) scVals.nd rfl (Or.inl rfl))
        (pss_one (ps_expr (pe_bm PySem.F.plainAttrs_list PySem.F.slot_list_append PySem.F.type_list_append mt_append (pv 2) (pa_cons (pe_fn DV GV hr rfl (pa_cons (pv 0) (pa_cons (pv 3) (pa_cons (pv 2) pa_nil)))) pa_nil)))))
      (pss_one (ps_ret (pv 2))))), ?_⟩
    have lv := hd.len
    refine ⟨_, rfl, a, ss, rfl, ⟨vs, ha, hd⟩, hl, hok, fun hdue H1 s1 => ?_, q2⟩
    refine ⟨Nat.zero_le _, fun R hR => ?_⟩
    have hR0 : H R = none := s1.free hR
    have s2 : Same H (L2.upd H1 R (.lst [])) := s1.trans (Same.upd hR)
    have e2 : L2.upd H1 R (.lst []) R = some (.lst []) := upd_same
    generalize L2.upd H1 R (.lst []) = H2 at s2 e2 ⊢
    refine ⟨_, rfl, a, rfl, ⟨_, SqL.of (s2 _ _ ha)⟩, for_list (xs := vs) (fun i σ H' => ∃ (o3 : Option V) (vals : List V), σ = [some (.ref wA), some (.ref a), some (.ref R), o3] ∧ Same H H' ∧ H' R = some (.lst vals) ∧ vals.length = i ∧ ValsAt H' vals) ⟨none, [], rfl, s2, e2, rfl, fun i v e => by simp at e⟩ (fun i σ H' _ ⟨_, _, _, s', _⟩ => SqL.of (s' _ _ ha)) ?_ ?_⟩
    · rintro i x σ H3 hx ⟨o3, vals, rfl, s3, e3, l3, hV⟩
      obtain ⟨st, hst, dx⟩ := hd.at i x hx
      have li := lt_get hst
      refine ⟨_, rfl, .inl ⟨rfl, _, SqL.of e3⟩, _, rfl, _, rfl, _, rfl, wA, R, x, st, vals, rfl, hW.mono s3, hok st (List.mem_of_getElem? hst), dx.keep (Same.keepT s3), e3, hV, by omega, ?_, fun z H4 s4 hz => ?_⟩
      · rw [l3]
        exact due_none hdue hst
      have e4 := s4 _ _ e3
      refine ⟨R, vals, z, rfl, rfl, e4, small1000 (by omega), ?_⟩
      have kp : ∀ {v' : V} {c : Nat}, VAt H4 v' 4 c → VAt (upd H4 R (.lst (vals ++ [z]))) v' 4 c := fun {v' c} ⟨p, l, ts, b, e, g1, g2, S⟩ => by
        have nl : l ≠ R := fun y => by
          rw [y, e4] at g2
          have g3 : vals = ts.map V.int := by injection g2 with g2; injection g2
          obtain ⟨t0, t1, t2, t3, rfl⟩ := four S.len
          obtain ⟨p', _, _, _, e', _⟩ := hV 0 (.int t0) (by rw [g3]; rfl)
          cases e'
        exact ⟨p, l, ts, b, e, by rw [upd_ne (fun y => by rw [y, e4] at g1; cases g1)]; exact g1, by rw [upd_ne nl]; exact g2, S⟩
      refine ⟨_, vals ++ [z], rfl, fun b o e => by rw [upd_ne (ne_of_none e hR0)]; exact s4 _ _ (s3 _ _ e), upd_same, by rw [List.length_append, l3]; rfl, fun j v hj => ?_⟩
      rcases snoc_get hj with hj | ⟨ej, rfl⟩
      · exact kp ((hV j v hj).mono s4)
      · rw [ej]
        exact kp hz
    · rintro σ H3 ⟨o3, vals, rfl, s3, e3, l3, hV⟩
      exact ⟨_, rfl, q1 hdue R vals H3 s3 e3 (by rw [l3, lv]) hV⟩
end

/-! tables_of_steps, steps_total -/
section
variable {P : Program} {w : World} {K : PySem.W.Frag} {mg : Str → Option Value} {base : Heap}
def spTables (K : PySem.W.Frag) (CS : Addr) : Sp := fun vs H Q E => ∃ (wA a : Addr) (ss : List Stp), vs = [.ref wA, .ref a] ∧ WebK H wA ∧ StsAt H a ss ∧ ss.length ≤ 12 ∧ 0 < ss.length ∧ (∀ t ∈ ss, t.ok) ∧
  (due ss = none → ∀ z H', Same H H' → Q z H') ∧ EOk CS ss H E
abbrev nTables : List Str := ["web", "steps", "size"]
theorem scTables : FnScope nTables ["web", "steps"] (defScope sTables) := ⟨rfl, rfl, rfl, by decide +kernel, rfl, by decide +kernel, by decide +kernel⟩
theorem lcTables : LcScopes (defScope sTables) nTables (lcScope (asgVal (bodyAt sTables 1))) ["value"] := ⟨by decide +kernel, rfl, by decide +kernel, by decide +kernel, by decide +kernel, by decide +kernel, by decide +kernel, by decide +kernel, by decide +kernel, by decide +kernel⟩
theorem ok_tables {f fV fF fS CS : Addr} {fd fdV fdF fdS : FuncData} (B : BltR mg) (F : Fun K "tables_of_steps" "tables_of_steps" sTables f fd) (DV : Dn K mg "values_of_steps" sVals ["web", "steps"] fV fdV) (GV : FnOk P w K mg base (CXd P w) 8 fV fdV ["web", "steps"] (spVals K CS))
    (DF : Dn K mg "fractions_of_value" sFrs ["value"] fF fdF) (GF : FnOk P w K mg base CX0 3 fF fdF ["value"] spFrs)
    (DS : Dn K mg "in_square" sInSq ["things", "size"] fS fdS) (GS : FnOk P w K mg base CX0 1 fS fdS ["things", "size"] (spInSq K)) : FnOk P w K mg base (CXd P w) 9 f fd ["web", "steps"] (spTables K CS) := by
  refine F.okD scTables (fun vs H Q E h => ?_) (fun cdv A outer s H vs Q E hr h => ?_)
  · obtain ⟨wA, a, ss, rfl, _⟩ := h
    rfl
  · obtain ⟨wA, a, ss, rfl, hW, hS, hl, h0, hok, q1, q2⟩ := h
    have r1 := hr.mono (j := 1) (by decide)
    have r3 := hr.mono (j := 3) (by decide)
    obtain ⟨hA, rA, r0, r1', w1, w2, _⟩ := id hW
    refine ⟨_, pss_cons (ps_set (i := 2) scTables.nd rfl (Or.inr rfl) (pe_callB call_len_seq (by rfl) B.len PySem.boot_len (pa_cons (pe_ix ix_tup (pv 0) pe_int (fun _ _ => rfl)) pa_nil)))
      (pss_one (ps_ret (pe_lc1 rfl lcTables rfl (pi_list (pe_fnX DV GV pass_okD hr rfl (pa_cons (pv 0) (pa_cons (pv 1) pa_nil)))) (fun _ _ _ => pe_fn DS GS r1 rfl (pa_cons (pe_fn DF GF r3 rfl (pa_cons (pv 3) pa_nil)) (pa_cons (pv 2) pa_nil)))))), ?_⟩
    refine ⟨_, rfl, wA, _, _, _, rfl, rfl, SqT.of w1, rfl, hA, _, rfl, .inl (SqL.of w2), ?_⟩
    refine ⟨_, rfl, _, rfl, wA, a, ss, rfl, hW, hS, hl, hok, fun hdue R vals H1 s1 eR lR hV => ⟨R, rfl, ⟨_, SqL.of eR⟩, fun D hD => ?_⟩, q2⟩
    refine lc_list (xs := vals) (fun i ys H' => ys.length = i ∧ Same H1 H' ∧ H' D = some (.lst ys)) ⟨rfl, Same.upd hD, upd_same⟩ (fun i ys H' _ ⟨_, s', eD⟩ => ⟨SqL.of (s' _ _ eR), eD⟩) ?_ ?_ ?_
    · rintro i x ys H' hx ⟨ly, s', eD⟩
      have li := lt_get hx
      refine ⟨_, rfl, x, 4, cB i, rfl, (hV i x hx).mono s', by decide, cB_most (by omega), fun D1 H2 xs s2 e2 lx => ?_⟩
      refine ⟨_, rfl, D1, xs, 2, rfl, SqL.of e2, lx, by decide, fun p H3 s3 np gp => ?_⟩
      refine ⟨s3 _ _ (s2 _ _ eD), small1000 (by omega), by rw [List.length_append, ly]; rfl, fun b o e => ?_, upd_same⟩
      rw [upd_ne (ne_of_none e hD)]
      exact s3 _ _ (s2 _ _ (s' _ _ e))
    · rintro ys H' ⟨ly, s', eD⟩
      exact q1 hdue _ H' (s1.trans s')
    · rintro σ H' Q1 Q2 hq ⟨v, e, x, n, c, a1, a2, a3, a4, g⟩
      refine ⟨v, e, x, n, c, a1, a2, a3, a4, fun D1 H2 xs s2 e2 lx => ?_⟩
      obtain ⟨v2, e3, D2, ys, m, b1, b2, b3, b4, g2⟩ := g D1 H2 xs s2 e2 lx
      exact ⟨v2, e3, D2, ys, m, b1, b2, b3, b4, fun p H3 s3 n3 g3 => hq _ _ (g2 p H3 s3 n3 g3)⟩
theorem scTotal : FnScope ["web", "steps"] ["web", "steps"] (defScope sTotal) := ⟨rfl, rfl, rfl, by decide +kernel, rfl, by decide +kernel, by decide +kernel⟩
theorem at_last {vals : List V} (h : 0 < vals.length) : ∃ (v : V) (i : Nat), vals[i]? = some v ∧ i = vals.length - 1 ∧ atI vals (-1) = some v := by
  obtain ⟨v, hv⟩ := get_lt (l := vals) (i := vals.length - 1) (by omega)
  refine ⟨v, _, hv, rfl, ?_⟩
  unfold atI ixN
  rw [if_neg (by decide), if_pos (by omega)]
  have : ((-1 : Int) + (vals.length : Int)).toNat = vals.length - 1 := by omega
  simp only [Option.bind_some, this, hv]
theorem ok_total {f fV fT CS : Addr} {fd fdV fdT : FuncData} (F : Fun K "steps_total" "steps_total" sTotal f fd) (DV : Dn K mg "values_of_steps" sVals ["web", "steps"] fV fdV) (GV : FnOk P w K mg base (CXd P w) 8 fV fdV ["web", "steps"] (spVals K CS))
    (DT : Dn K mg "total_of_value" sTot ["value"] fT fdT) (GT : FnOk P w K mg base CX0 3 fT fdT ["value"] spTot) : FnOk P w K mg base (CXd P w) 9 f fd ["web", "steps"] (spTables K CS) := by
  refine F.okD scTotal (fun vs H Q E h => ?_) (fun cdv A outer s H vs Q E hr h => ?_)
  · obtain ⟨wA, a, ss, rfl, _⟩ := h
    rfl
  · obtain ⟨wA, a, ss, rfl, hW, hS, hl, h0, hok, q1, q2⟩ := h
    have r3 := hr.mono (j := 3) (by decide)
    refine ⟨_, pss_one (ps_ret (pe_fn DT GT r3 rfl (pa_cons (pe_ix ix_list (pe_fnX DV GV pass_okD hr rfl (pa_cons (pv 0) (pa_cons (pv 1) pa_nil))) (pe_un un_neg pe_int) (fun _ _ => rfl)) pa_nil))), ?_⟩
    refine ⟨_, rfl, _, rfl, wA, a, ss, rfl, hW, hS, hl, hok, fun hdue R vals H1 s1 eR lR hV => ?_, q2⟩
    obtain ⟨v, i, hv, ei, at1⟩ := at_last (vals := vals) (by omega)
    refine ⟨_, rfl, R, _, _, v, rfl, rfl, SqL.of eR, at1, v, 4, cB i, rfl, hV i v hv, cB_most (by omega), fun z H2 s2 => q1 hdue z H2 (s1.trans s2)⟩
end

/-! THE LAW: steps that are drawn; what is due -/
section
variable {P : Program} {w : World} {K : PySem.W.Frag} {mg : Str → Option Value} {base : Heap}
theorem StH.da {H : Hp} {v : V} {t : Stp} (h : StH H v t) : DA K any H v t.dat := by
  cases t with
  | leaf w => obtain ⟨p, rfl, h⟩ := h; exact .tup trivial (SqT.of h) (.cons (.str _) .nil)
  | hue => obtain ⟨p, rfl, h⟩ := h; exact .tup trivial (SqT.of h) (.cons (.str _) (.cons (.int _) .nil))
  | turned i => obtain ⟨p, rfl, h⟩ := h; exact .tup trivial (SqT.of h) (.cons (.str _) (.cons (.int _) .nil))
  | two w i j => obtain ⟨p, rfl, h⟩ := h; exact .tup trivial (SqT.of h) (.cons (.str _) (.cons (.int _) (.cons (.int _) .nil)))
  | many i => obtain ⟨p, f, rfl, h, h'⟩ := h; exact .tup trivial (SqT.of h) (.cons (.str _) (.cons (.tup trivial (SqT.of h') (.cons (.int _) (.cons (.int _) .nil))) (.cons (.int _) .nil)))
theorem StsH.das {H : Hp} {vs : List V} {ss : List Stp} (h : StsH H vs ss) : DAs K any H vs (ss.map Stp.dat) := by
  induction h with
  | nil => exact .nil
  | cons h r ih => exact .cons h.da ih
/-! ### _law_number -/
def spNumber : Sp := fun vs H Q _ => ∃ (p : Addr) (k : Nat) (y : Int) (n : Nat), vs = [.ref p, .int (k : Int), .int y] ∧ k ≤ 12 ∧ Drw H p n ∧ n ≤ 900000 ∧ ∀ (r : Int) H', But p H H' → Drw H' p (n + 2) → Q (.int r) H'
abbrev nNumber : List Str := ["_law_draw", "_law_k", "_law_way"]
theorem scNumber : FnScope nNumber nNumber (defScope sNumber) := ⟨rfl, rfl, rfl, by decide +kernel, rfl, by decide +kernel, by decide +kernel⟩
theorem ok_number {f fT : Addr} {fd fdT : FuncData} (F : Fun K "_law_number" "_law_number" sNumber f fd) (DT : Dn K mg "_law_take" sTake ["_law_draw", "_law_most"] fT fdT) (GT : FnOk P w K mg base CX0 2 fT fdT ["_law_draw", "_law_most"] spTake) : FnOk P w K mg base CX0 3 f fd nNumber spNumber := by
  refine F.ok scNumber (fun vs H Q E h => ?_) (fun cdv A outer s H vs Q E hr h => ?_)
  · obtain ⟨p, k, y, n, rfl, _⟩ := h
    rfl
  · obtain ⟨p, k, y, n, rfl, hk, hd, hn, q⟩ := h
    refine ⟨_, pss_cons (ps_if (pt_cmpR op_eq (pv 2) pe_int (nomark _)) (pss_one (ps_ret (pe_ix ix_list (pe_lst (pa_cons (pe_op op_pow pe_int pe_int) (pa_cons (pe_un un_neg (pe_op op_pow pe_int pe_int)) (pa_cons (pv 1) (pa_cons (pe_op op_sub (pv 1) pe_int) (pa_cons (pe_un un_neg pe_int) (pa_cons pe_int pa_nil)))))))
        (pe_fn DT GT hr rfl (pa_cons (pv 0) (pa_cons pe_int pa_nil))) (fun _ _ => rfl)))) pss_nil)
      (pss_cons (ps_if (PW.pt (pw_and (pt_cmpR op_eq (pv 2) pe_int (nomark _)) (pw_and1 (pt_cmpR op_gt (pv 1) pe_int (nomark _))))) (pss_one (ps_ret (pe_fn DT GT hr rfl (pa_cons (pv 0) (pa_cons (pv 1) pa_nil))))) pss_nil)
      (pss_one (ps_ret (pe_op op_sub (pe_fn DT GT hr rfl (pa_cons (pv 0) (pa_cons (pe_op op_add (pv 1) pe_int) pa_nil))) pe_int)))), ?_⟩
    refine ⟨_, rfl, rfl, _, rfl, ?_⟩
    refine ite2 (fun _ => ?_) (fun _ => ?_)
    · refine ⟨_, _, rfl, rfl, pow59, _, _, rfl, rfl, pow59, _, rfl, _, rfl, _, rfl, _, _, rfl, rfl, 1, rfl, (by show 6 ≤ sizeLine; decide), fun l hl => ?_⟩
      refine ⟨_, rfl, p, 6, n, rfl, by decide, by decide, hd.new hl, by omega, fun r H' h0 h1 hB hD => ?_⟩
      have npl : l ≠ p := by
        obtain ⟨a, b, c, e, _⟩ := hd
        exact (ne_of_none e hl).symm
      have hl' := hB l _ npl upd_same
      have cB' : But p H H' := (But.new hl).trans hB
      obtain ⟨j, rfl⟩ := Int.eq_ofNat_of_zero_le h0
      have hj : j < 6 := by omega
      match j, hj with
      | 0, _ => exact ⟨l, _, _, _, rfl, rfl, SqL.of hl', rfl, q _ H' cB' hD⟩
      | 1, _ => exact ⟨l, _, _, _, rfl, rfl, SqL.of hl', rfl, q _ H' cB' hD⟩
      | 2, _ => exact ⟨l, _, _, _, rfl, rfl, SqL.of hl', rfl, q _ H' cB' hD⟩
      | 3, _ => exact ⟨l, _, _, _, rfl, rfl, SqL.of hl', rfl, q _ H' cB' hD⟩
      | 4, _ => exact ⟨l, _, _, _, rfl, rfl, SqL.of hl', rfl, q _ H' cB' hD⟩
      | 5, _ => exact ⟨l, _, _, _, rfl, rfl, SqL.of hl', rfl, q _ H' cB' hD⟩
    · have last : ∃ v : V, v = .int (k : Int) ∧ True := ⟨_, rfl, trivial⟩
      refine ⟨_, rfl, rfl, _, rfl, ?_⟩
      refine ite2 (fun _ => ?_) (fun _ => iteF ?_)
      · refine ⟨_, rfl, _, _, rfl, rfl, _, rfl, ?_⟩
        by_cases hk0 : (k : Int) > 0
        · refine itDP hk0 ?_
          exact ⟨_, rfl, _, rfl, p, (k : Int), n, rfl, hk0, by omega, hd, by omega, fun r H' h0 h1 hB hD => q r H' hB hD⟩
        · refine itDN hk0 ?_
          exact ⟨_, rfl, _, rfl, _, _, rfl, rfl, p, (k : Int) + 6, n, rfl, by omega, by omega, hd, by omega, fun r H' h0 h1 hB hD => ⟨_, _, rfl, rfl, q _ H' hB hD⟩⟩
      · exact ⟨_, rfl, _, rfl, _, _, rfl, rfl, p, (k : Int) + 6, n, rfl, by omega, by omega, hd, by omega, fun r H' h0 h1 hB hD => ⟨_, _, rfl, rfl, q _ H' hB hD⟩⟩
end

/-! THE LAW: _law_steps -/
section
variable {P : Program} {w : World} {K : PySem.W.Frag} {mg : Str → Option Value} {base : Heap}
def WordOk (wd : Str) : Prop := (wd = "same" ∨ wd = "tie" ∨ wd = "all") ∨ wd = "hue" ∨ wd = "turned" ∨ wd = "many" ∨ TwoW wd
def nine : List V := [.str "same", .str "tie", .str "all", .str "hue", .str "turned", .str "then", .str "meet", .str "plus", .str "many"]
theorem nine_at {j : Nat} (h : j < 9) : ∃ wd, atI nine (j : Int) = some (.str wd) ∧ WordOk wd := by
  match j, h with
  | 0, _ => exact ⟨"same", rfl, .inl (.inl rfl)⟩
  | 1, _ => exact ⟨"tie", rfl, .inl (.inr (.inl rfl))⟩
  | 2, _ => exact ⟨"all", rfl, .inl (.inr (.inr rfl))⟩
  | 3, _ => exact ⟨"hue", rfl, .inr (.inl rfl)⟩
  | 4, _ => exact ⟨"turned", rfl, .inr (.inr (.inl rfl))⟩
  | 5, _ => exact ⟨"then", rfl, .inr (.inr (.inr (.inr (.inr (.inl rfl)))))⟩
  | 6, _ => exact ⟨"meet", rfl, .inr (.inr (.inr (.inr (.inr (.inr rfl)))))⟩
  | 7, _ => exact ⟨"plus", rfl, .inr (.inr (.inr (.inr (.inl rfl))))⟩
  | 8, _ => exact ⟨"many", rfl, .inr (.inr (.inr (.inl rfl)))⟩
/-- the steps so far -/
structure Sf (H0 : Hp) (d R : Addr) (n i : Nat) (H : Hp) (vs : List V) (ss : List Stp) : Prop where
  but : But d H0 H
  new : H0 R = none
  ne : R ≠ d
  lst : H R = some (.lst vs)
  sts : StsH H vs ss
  len : ss.length = i
  ok : ∀ t ∈ ss, t.ok
  drw : Drw H d n
theorem Sf.same {H0 H H' : Hp} {d R : Addr} {n i : Nat} {vs : List V} {ss : List Stp} (S : Sf H0 d R n i H vs ss) (s : Same H H') : Sf H0 d R n i H' vs ss := by
  refine ⟨fun b o hb e => s _ _ (S.but b o hb e), S.new, S.ne, s _ _ S.lst, S.sts.keep (Same.keepT s), S.len, S.ok, ?_⟩
  obtain ⟨a, b, c, e, h⟩ := S.drw
  exact ⟨a, b, c, s _ _ e, h⟩
theorem Sf.take {H0 H H' : Hp} {d R : Addr} {n m i : Nat} {vs : List V} {ss : List Stp} (S : Sf H0 d R n i H vs ss) (b : But d H H') (D : Drw H' d m) : Sf H0 d R m i H' vs ss :=
  ⟨S.but.trans b, S.new, S.ne, b _ _ S.ne S.lst, S.sts.keep (But.keepT b S.drw), S.len, S.ok, D⟩
theorem Sf.push {H0 H : Hp} {d R : Addr} {n i : Nat} {vs : List V} {ss : List Stp} {v : V} {t : Stp} (S : Sf H0 d R n i H vs ss) (hv : StH H v t) (ht : t.ok) : Sf H0 d R n (i + 1) (upd H R (.lst (vs ++ [v]))) (vs ++ [v]) (ss ++ [t]) := by
  have kp : KeepT H (upd H R (.lst (vs ++ [v]))) := KeepT.lst S.lst
  refine ⟨fun b o hb e => ?_, S.new, S.ne, upd_same, (S.sts.keep kp).snoc (hv.keep kp), by rw [List.length_append, S.len]; rfl, fun t' h' => ?_, ?_⟩
  · rw [upd_ne (ne_of_none e S.new)]
    exact S.but b o hb e
  · rcases List.mem_append.mp h' with h' | h'
    · exact S.ok t' h'
    · rw [List.mem_singleton.mp h']; exact ht
  · obtain ⟨a, b, c, e, h⟩ := S.drw
    exact ⟨a, b, c, by rw [upd_ne S.ne.symm]; exact e, h⟩
def spSteps : Sp := fun vs H Q _ => ∃ (d : Addr) (n : Nat), vs = [.ref d] ∧ Drw H d n ∧ n ≤ 1000 ∧ ∀ R vs' ss H' m, Sf H d R m ss.length H' vs' ss → 0 < ss.length → ss.length ≤ 12 → Q (.ref R) H'
abbrev nSteps : List Str := ["_law_draw", "_law_way", "_law_steps_here", "_law_k", "_law_word", "_law_i", "_law_j"]
theorem scSteps : FnScope nSteps ["_law_draw"] (defScope sSteps) := ⟨rfl, rfl, rfl, by decide +kernel, rfl, by decide +kernel, by decide +kernel⟩
theorem ok_steps {f fT fN : Addr} {fd fdT fdN : FuncData} (B : BltR mg) (F : Fun K "_law_steps" "_law_steps" sSteps f fd) (DT : Dn K mg "_law_take" sTake ["_law_draw", "_law_most"] fT fdT) (GT : FnOk P w K mg base CX0 2 fT fdT ["_law_draw", "_law_most"] spTake)
    (DN : Dn K mg "_law_number" sNumber nNumber fN fdN) (GN : FnOk P w K mg base CX0 3 fN fdN nNumber spNumber) : FnOk P w K mg base CX0 4 f fd ["_law_draw"] spSteps := by
  refine F.ok scSteps (fun vs H Q E h => ?_) (fun cdv A outer s H vs Q E hr h => ?_)
  · obtain ⟨d, n, rfl, _⟩ := h
    rfl
  · obtain ⟨d, n, rfl, hd, hn, q⟩ := h
    have r2 := hr.mono (j := 2) (by decide)
    refine ⟨_, pss_cons (ps_set (i := 1) scSteps.nd rfl (Or.inl rfl) (pe_fn DT GT r2 rfl (pa_cons (pv 0) (pa_cons pe_int pa_nil))))
      (pss_cons (ps_set (i := 2) scSteps.nd rfl (Or.inl rfl) (pe_lst pa_nil))
      (pss_cons (ps_for PassesOwn.never rfl (pi_range1 rfl B.range (pa_cons (pe_op op_add pe_int (pe_fn DT GT r2 rfl (pa_cons (pv 0) (pa_cons pe_int pa_nil)))) pa_nil)) (pg_name (i := 3) scSteps.nd rfl (Or.inl rfl))
        (pss_mid (ps_set (i := 4) scSteps.nd rfl (Or.inl rfl) (pe_ix ix_list (pe_lst (pa_cons pe_str (pa_cons pe_str (pa_cons pe_str (pa_cons pe_str (pa_cons pe_str (pa_cons pe_str (pa_cons pe_str (pa_cons pe_str (pa_cons pe_str pa_nil)))))))))) (pe_fn DT GT r2 rfl (pa_cons (pv 0) (pa_cons pe_int pa_nil))) (fun _ _ => rfl)))
        (pss_mid (ps_if (PW.pt (pw_and (pt_cmpR op_eq (pv 1) pe_int (nomark _)) (pw_and1 (pt_cmpR op_eq (pv 3) pe_int (nomark _))))) (pss_one (ps_set (i := 4) scSteps.nd rfl (Or.inl rfl) pe_str)) pss_nil)
        (pss_cons (ps_set (i := 5) scSteps.nd rfl (Or.inl rfl) (pe_fn DN GN hr rfl (pa_cons (pv 0) (pa_cons (pv 3) (pa_cons (pv 1) pa_nil)))))
        (pss_cons (ps_set (i := 6) scSteps.nd rfl (Or.inl rfl) (pe_fn DN GN hr rfl (pa_cons (pv 0) (pa_cons (pv 3) (pa_cons (pv 1) pa_nil)))))
        (pss_one (ps_if (pt_cmpR op_eq (pv 4) pe_str (nomark _)) (pss_one (ps_expr (pe_bm PySem.F.plainAttrs_list PySem.F.slot_list_append PySem.F.type_list_append mt_append (pv 2) (pa_cons (pe_tup (pa_cons pe_str (pa_cons pe_int pa_nil))) pa_nil))))
          (pss_one (ps_if (pt_cmpR op_eq (pv 4) pe_str (nomark _)) (pss_one (ps_expr (pe_bm PySem.F.plainAttrs_list PySem.F.slot_list_append PySem.F.type_list_append mt_append (pv 2) (pa_cons (pe_tup (pa_cons pe_str (pa_cons (pv 5) pa_nil))) pa_nil))))
          (pss_one (ps_if (pt_cmpR op_eq (pv 4) pe_str (nomark _)) (pss_one (ps_expr (pe_bm PySem.F.plainAttrs_list PySem.F.slot_list_append PySem.F.type_list_append mt_append (pv 2) (pa_cons (pe_tup (pa_cons pe_str (pa_cons (pe_tup (pa_cons pe_int (pa_cons pe_int pa_nil))) (pa_cons (pv 5) pa_nil)))) pa_nil))))
          (pss_one (ps_if (pt_cmpR op_in_seq (pv 4) (pe_lst (pa_cons pe_str (pa_cons pe_str (pa_cons pe_str pa_nil)))) rfl) (pss_one (ps_expr (pe_bm PySem.F.plainAttrs_list PySem.F.slot_list_append PySem.F.type_list_append mt_append (pv 2) (pa_cons (pe_tup (pa_cons (pv 4) (pa_cons (pv 5) (pa_cons (pv 6) pa_nil)))) pa_nil))))
            (pss_one (ps_expr (pe_bm PySem.F.plainAttrs_list PySem.F.slot_list_append PySem.F.type_list_append mt_append (pv 2) (pa_cons (pe_tup (pa_cons (pv 4) pa_nil)) pa_nil)))))))))))))))))
      (pss_one (ps_ret (pv 2))))), ?_⟩
    refine ⟨_, rfl, d, 3, n, rfl, by decide, by decide, hd, by omega, fun y H1 y0 y1 hB1 hD1 => ?_⟩
    refine ⟨Nat.zero_le _, fun R hR => ?_⟩
    have nR : R ≠ d := fun z => by
      obtain ⟨a, b, c, e, _⟩ := hD1
      rw [z, e] at hR
      cases hR
    have hR0 : H R = none := by
      cases e : H R with
      | none => rfl
      | some o => rw [hB1 R o nR e] at hR; cases hR
    have S2 : Sf H d R (n + 2) 0 (L2.upd H1 R (.lst [])) [] [] := ⟨hB1.trans (But.new hR), hR0, nR, upd_same, .nil, rfl, (fun t h => by cases h), hD1.new hR⟩
    generalize L2.upd H1 R (.lst []) = H2 at S2 ⊢
    refine ⟨_, rfl, d, 12, n + 2, rfl, by decide, by decide, S2.drw, by omega, fun m H3 m0 m1 hB3 hD3 => ?_⟩
    have S3 := S2.take hB3 hD3
    obtain ⟨c, rfl⟩ := Int.eq_ofNat_of_zero_le m0
    have ec : (1 : Int) + (c : Int) = ((c + 1 : Nat) : Int) := by push_cast; omega
    refine ⟨_, _, rfl, rfl, ((c + 1 : Nat) : Int), congrArg (fun z => [V.int z]) ec, by omega, by omega, for_range (n := c + 1) (fun i σ H' => ∃ (o3 o4 o5 o6 : Option V) (vs : List V) (ss : List Stp), σ = [some (.ref d), some (.int y), some (.ref R), o3, o4, o5, o6] ∧ Sf H d R (n + 4 + 6 * i) i H' vs ss) ⟨none, none, none, none, [], [], rfl, S3⟩ ?_ ?_⟩
    · rintro i σ H4 hi ⟨o3, o4, o5, o6, vs, ss, rfl, S4⟩
      have e0 : ((0 : Int) + (i : Nat)) = (i : Int) := by omega
      rw [e0]
      clear S2 S3 hB3 hD3 hB1 hD1 hd
      refine ⟨fun σ H' => ∃ wd, WordOk wd ∧ σ = [some (.ref d), some (.int y), some (.ref R), some (.int (i : Int)), some (.str wd), o5, o6] ∧ Sf H d R (n + 4 + 6 * i + 2) i H' vs ss, ?_, ?_⟩
      · refine ⟨(by show 9 ≤ sizeLine; decide), fun l hl => ?_⟩
        have S5 := S4.same (Same.upd (o := .lst nine) hl)
        have e5 : L2.upd H4 l (.lst nine) l = some (.lst nine) := upd_same
        have nl : l ≠ d := fun z => by
          obtain ⟨a, b, c, e, _⟩ := S4.drw
          rw [z, e] at hl
          cases hl
        refine ⟨_, rfl, d, 9, _, rfl, by decide, by decide, S5.drw, by omega, fun r H6 r0 r1 hB6 hD6 => ?_⟩
        have S6 := S5.take hB6 hD6
        have e6 := hB6 l _ nl e5
        obtain ⟨j, rfl⟩ := Int.eq_ofNat_of_zero_le r0
        obtain ⟨wd, hwd, hok⟩ := nine_at (j := j) (by omega)
        exact ⟨l, _, _, _, rfl, rfl, SqL.of e6, hwd, wd, hok, rfl, S6⟩
      rintro σ5 H5 ⟨wd, hwd, rfl, S5⟩
      refine ⟨fun σ H' => ∃ wd, WordOk wd ∧ σ = [some (.ref d), some (.int y), some (.ref R), some (.int (i : Int)), some (.str wd), o5, o6] ∧ Sf H d R (n + 4 + 6 * i + 2) i H' vs ss, ?_, ?_⟩
      · refine ⟨_, rfl, rfl, _, rfl, ?_⟩
        refine ite2 (fun _ => ?_) (fun _ => iteF ⟨wd, hwd, rfl, S5⟩)
        refine ⟨_, rfl, rfl, _, rfl, ?_⟩
        refine ite2 (fun _ => ?_) (fun _ => ⟨wd, hwd, rfl, S5⟩)
        exact ⟨"tie", .inl (.inr (.inl rfl)), rfl, S5⟩
      clear S5 hwd wd
      rintro σ5 H5 ⟨wd, hwd, rfl, S5⟩
      refine ⟨_, rfl, _, rfl, _, rfl, d, i, y, _, rfl, by omega, S5.drw, by omega, fun x1 H6 hB6 hD6 => ?_⟩
      have S6 := S5.take hB6 hD6
      refine ⟨_, rfl, _, rfl, _, rfl, d, i, y, _, rfl, by omega, S6.drw, by omega, fun x2 H7 hB7 hD7 => ?_⟩
      have S7 := S6.take hB7 hD7
      clear S5 S6 hB6 hD6 hB7 hD7
      have eR := S7.lst
      have lv : vs.length < 900 := by rw [S7.sts.len, S7.len]; omega
      -- what is put behind
      have put : ∀ (H8 : Hp) (v : V) (t : Stp), Same H7 H8 → StH H8 v t → t.ok → ∃ (o3 o4 o5 o6 : Option V) (vs' : List V) (ss' : List Stp), [some (.ref d), some (.int y), some (.ref R), some (.int (i : Int)), some (.str wd), some (.int x1), some (.int x2)] = [some (V.ref d), some (.int y), some (.ref R), o3, o4, o5, o6] ∧ Sf H d R (n + 4 + 6 * (i + 1)) (i + 1) (upd H8 R (.lst (vs ++ [v]))) vs' ss' := fun H8 v t s8 hv ht => by
        have S9 := (S7.same s8).push hv ht
        refine ⟨_, _, _, _, _, _, rfl, S9.but, S9.new, S9.ne, S9.lst, S9.sts, S9.len, S9.ok, S9.drw.mono (by omega)⟩
      refine ⟨_, rfl, rfl, _, rfl, ?_⟩
      rcases hwd with hl | rfl | rfl | rfl | ht
      · have h1 : wd ≠ "hue" := by rcases hl with rfl | rfl | rfl <;> decide +kernel
        have h2 : wd ≠ "turned" := by rcases hl with rfl | rfl | rfl <;> decide +kernel
        have h3 : wd ≠ "many" := by rcases hl with rfl | rfl | rfl <;> decide +kernel
        have h4 : inV (.str wd) [.str "then", .str "meet", .str "plus"] = false := by rcases hl with rfl | rfl | rfl <;> decide +kernel
        refine itDN (sne h1) ⟨_, rfl, rfl, _, rfl, itDN (sne h2) ⟨_, rfl, rfl, _, rfl, itDN (sne h3) ?_⟩⟩
        refine ⟨_, rfl, (by show 3 ≤ sizeLine; decide), fun l hl' => ⟨l, _, rfl, .inl (SqL.of upd_same), rfl, rfl, _, rfl, ?_⟩⟩
        rw [if_neg Bool.false_ne_true, h4]
        refine iteF ?_
        have s8 : Same H7 (L2.upd H7 l (.lst [.str "then", .str "meet", .str "plus"])) := Same.upd hl'
        generalize L2.upd H7 l (.lst [.str "then", .str "meet", .str "plus"]) = H8 at s8 ⊢
        refine ⟨_, rfl, .inl ⟨rfl, _, SqL.of (s8 _ _ eR)⟩, _, rfl, (by show 1 ≤ sizeLine; decide), fun p hp => ?_⟩
        have nRp : R ≠ p := ne_of_none (s8 _ _ eR) hp
        exact ⟨R, vs, _, rfl, rfl, by rw [upd_ne nRp]; exact s8 _ _ eR, small1000 (by omega), put _ _ (.leaf wd) (s8.trans (Same.upd hp)) ⟨p, rfl, upd_same⟩ hl⟩
      · refine itDP rfl ?_
        refine ⟨_, rfl, .inl ⟨rfl, _, SqL.of eR⟩, (by show 2 ≤ sizeLine; decide), fun p hp => ?_⟩
        have nRp : R ≠ p := ne_of_none eR hp
        exact ⟨R, vs, _, rfl, rfl, by rw [upd_ne nRp]; exact eR, small1000 (by omega), put _ _ .hue (Same.upd hp) ⟨p, rfl, upd_same⟩ trivial⟩
      · refine itDN (sne (show ("turned" : Str) ≠ "hue" by decide +kernel)) ⟨_, rfl, rfl, _, rfl, itDP rfl ?_⟩
        refine ⟨_, rfl, .inl ⟨rfl, _, SqL.of eR⟩, _, rfl, (by show 2 ≤ sizeLine; decide), fun p hp => ?_⟩
        have nRp : R ≠ p := ne_of_none eR hp
        exact ⟨R, vs, _, rfl, rfl, by rw [upd_ne nRp]; exact eR, small1000 (by omega), put _ _ (.turned x1) (Same.upd hp) ⟨p, rfl, upd_same⟩ trivial⟩
      · refine itDN (sne (show ("many" : Str) ≠ "hue" by decide +kernel)) ⟨_, rfl, rfl, _, rfl, itDN (sne (show ("many" : Str) ≠ "turned" by decide +kernel)) ⟨_, rfl, rfl, _, rfl, itDP rfl ?_⟩⟩
        refine ⟨_, rfl, .inl ⟨rfl, _, SqL.of eR⟩, (by show 2 ≤ sizeLine; decide), fun f1 hf1 => ?_⟩
        have s8 : Same H7 (L2.upd H7 f1 (.tup [.int 1, .int 2])) := Same.upd hf1
        have e8 : L2.upd H7 f1 (.tup [.int 1, .int 2]) f1 = some (.tup [.int 1, .int 2]) := upd_same
        generalize L2.upd H7 f1 (.tup [.int 1, .int 2]) = H8 at s8 e8 ⊢
        refine ⟨_, rfl, (by show 3 ≤ sizeLine; decide), fun p hp => ?_⟩
        have nRp : R ≠ p := ne_of_none (s8 _ _ eR) hp
        have nfp : f1 ≠ p := ne_of_none e8 hp
        exact ⟨R, vs, _, rfl, rfl, by rw [upd_ne nRp]; exact s8 _ _ eR, small1000 (by omega), put _ _ (.many x1) (s8.trans (Same.upd hp)) ⟨p, f1, rfl, upd_same, by rw [upd_ne nfp]; exact e8⟩ trivial⟩
      · have h1 : wd ≠ "hue" := by rcases ht with rfl | rfl | rfl <;> decide +kernel
        have h2 : wd ≠ "turned" := by rcases ht with rfl | rfl | rfl <;> decide +kernel
        have h3 : wd ≠ "many" := by rcases ht with rfl | rfl | rfl <;> decide +kernel
        have h4 : inV (.str wd) [.str "then", .str "meet", .str "plus"] = true := by rcases ht with rfl | rfl | rfl <;> decide +kernel
        refine itDN (sne h1) ⟨_, rfl, rfl, _, rfl, itDN (sne h2) ⟨_, rfl, rfl, _, rfl, itDN (sne h3) ?_⟩⟩
        refine ⟨_, rfl, (by show 3 ≤ sizeLine; decide), fun l hl' => ⟨l, _, rfl, .inl (SqL.of upd_same), rfl, rfl, _, rfl, ?_⟩⟩
        rw [if_neg Bool.false_ne_true, h4]
        refine iteT ?_
        have s8 : Same H7 (L2.upd H7 l (.lst [.str "then", .str "meet", .str "plus"])) := Same.upd hl'
        generalize L2.upd H7 l (.lst [.str "then", .str "meet", .str "plus"]) = H8 at s8 ⊢
        refine ⟨_, rfl, .inl ⟨rfl, _, SqL.of (s8 _ _ eR)⟩, _, rfl, _, rfl, _, rfl, (by show 3 ≤ sizeLine; decide), fun p hp => ?_⟩
        have nRp : R ≠ p := ne_of_none (s8 _ _ eR) hp
        exact ⟨R, vs, _, rfl, rfl, by rw [upd_ne nRp]; exact s8 _ _ eR, small1000 (by omega), put _ _ (.two wd x1 x2) (s8.trans (Same.upd hp)) ⟨p, rfl, upd_same⟩ ht⟩
    · rintro σ H4 ⟨o3, o4, o5, o6, vs, ss, rfl, S4⟩
      have l4 := S4.len
      exact ⟨_, rfl, q R vs ss H4 _ (by rw [l4]; exact S4) (by omega) (by omega)⟩
end

/-! THE LAW: what is due, what is caught -/
section
variable {P : Program} {w : World} {K : PySem.W.Frag} {mg : Str → Option Value} {base : Heap}
theorem lc_filt {J : It} {xs : List V} {tt : TT} {te : TE} {Q : VK} {σ : L2.St} {n : Nat} {H1 : Hp} (pr : V → Bool) (hn : σ.length = n) (hm : xs.length ≤ 900)
    (go : ∀ i H', Same H1 H' → i < xs.length → J.go i H') (yld : ∀ i H' z H2, Same H1 H' → J.yld i H' z H2 → H2 = H' ∧ xs[i]? = some z) (stop : ∀ H', Same H1 H' → J.stop xs.length H')
    (ht : ∀ x H' (Q' : Bool → Hp → Prop), x ∈ xs → Same H1 H' → Q' (pr x) H' → tt (σ ++ [some x]) H' Q')
    (he : ∀ x H' (Q' : VK), Q' x H' → te (σ ++ [some x]) H' Q')
    (hd : ∀ D H', Same H1 H' → H' D = some (.lst (xs.filter pr)) → Q (.ref D) H') : LcW 1 J (gName n) tt te σ H1 Q := by
  subst hn
  intro D hD
  refine ⟨fun i m zs H' => m = xs.length - i ∧ i ≤ xs.length ∧ zs = (xs.take i).filter pr ∧ Same H1 H' ∧ H' D = some (.lst zs), ⟨xs.length, by simp, Nat.zero_le _, rfl, Same.upd hD, upd_same⟩, ?_⟩
  rintro i m zs H2 ⟨rfl, hi, rfl, s2, eD⟩
  refine ⟨eD, ?_⟩
  by_cases hlt : i < xs.length
  · refine .inr ⟨go i H2 s2 hlt, fun z H3 hy os los => ?_⟩
    obtain ⟨rfl, hz⟩ := yld i H2 z H3 s2 hy
    match os, los with
    | [o], _ =>
      have es : (σ ++ [o]).set σ.length (some z) = σ ++ [some z] := by
        rw [List.set_append_right _ _ (Nat.le_refl _), Nat.sub_self]
        rfl
      show (∃ os' : L2.St, (σ ++ [o]).set σ.length (some z) = σ ++ os' ∧ os'.length = 1) ∧ _
      rw [es]
      refine ⟨⟨[some z], rfl, rfl⟩, ht z H3 _ (List.mem_of_getElem? hz) s2 ?_⟩
      have tk : (xs.take (i + 1)).filter pr = (xs.take i).filter pr ++ (if pr z = true then [z] else []) := by
        rw [take_snoc hz, List.filter_append]
        congr 1
        by_cases hp : pr z = true
        · rw [if_pos hp, List.filter_cons_of_pos hp]; rfl
        · rw [if_neg hp, List.filter_cons_of_neg hp]; rfl
      cases hp : pr z with
      | true =>
        refine iteT (he z H3 _ ?_)
        rw [hp, if_pos rfl] at tk
        refine ⟨eD, small1000 (Nat.le_trans (List.length_filter_le _ _) (by rw [List.length_take]; omega)), xs.length - (i + 1), by omega, rfl, hlt, tk.symm, fun b o' e => ?_, upd_same⟩
        rw [upd_ne (ne_of_none e hD)]
        exact s2 _ _ e
      | false =>
        refine iteF ?_
        rw [hp, if_neg Bool.false_ne_true, List.append_nil] at tk
        exact ⟨xs.length - (i + 1), by omega, rfl, hlt, tk.symm, s2, eD⟩
  · have : i = xs.length := by omega
    subst this
    rw [List.take_length] at eD
    exact .inl ⟨stop H2 s2, hd D H2 s2 eD⟩
/-! ### _law_due -/
def forBody (s : Stmt) (i : Nat) : Stmt := match s with
  | .For _ _ b _ _ => b.getD i (.Pass ⟨0, 0, 0, 0⟩)
  | _ => .Pass ⟨0, 0, 0, 0⟩
def cmpL (s : Stmt) : Expr := match s with
  | .If (.Compare a _ _ _) _ _ _ => a
  | _ => .Constant .none 0 ⟨0, 0, 0, 0⟩
def dueV : Option Nat → V
  | some u => .int (u : Int)
  | none => .non
def spDue : Sp := fun vs H Q _ => ∃ (a : Addr) (vs' : List V) (ss : List Stp), vs = [.ref a] ∧ H a = some (.lst vs') ∧ StsH H vs' ss ∧ ss.length ≤ 12 ∧ (∀ t ∈ ss, t.ok) ∧ ∀ H', Same H H' → Q (dueV (due ss)) H'
abbrev nDue : List Str := ["_law_steps_here", "_law_k", "_law_step", "_law_named"]
theorem scDue : FnScope nDue ["_law_steps_here"] (defScope sDue) := ⟨rfl, rfl, rfl, by decide +kernel, rfl, by decide +kernel, by decide +kernel⟩
theorem lcDue1 : LcScopes (defScope sDue) nDue (lcScope (asgVal (forBody (bodyAt sDue 0) 0))) ["_law_one"] := ⟨by decide +kernel, rfl, by decide +kernel, by decide +kernel, by decide +kernel, by decide +kernel, by decide +kernel, by decide +kernel, by decide +kernel, by decide +kernel⟩
theorem lcDue2 : LcScopes (defScope sDue) nDue (lcScope (cmpL (forBody (bodyAt sDue 0) 2))) ["_law_one"] := ⟨by decide +kernel, rfl, by decide +kernel, by decide +kernel, by decide +kernel, by decide +kernel, by decide +kernel, by decide +kernel, by decide +kernel, by decide +kernel⟩
theorem call_isinstK {K : PySem.W.Frag} {X : Cx} (h : X.K = K := by rfl) : CallR X (.builtin "isinstance") (fun xs H Q => ∃ x t n b, xs = [x, .ty n] ∧ TyOf K H x t ∧ PySem.W.kitOne K t (.type n) = some b ∧ Q (.bl b) H) := by subst h; exact call_isinst
theorem kitTT : PySem.W.kitOne K (.type "tuple") (.type "tuple") = some true := rfl
theorem kitIT : PySem.W.kitOne K (.type "int") (.type "tuple") = some false := by
  with_unfolding_all rfl
theorem boot_tuple' : bootBuiltins "tuple" = some (.type "tuple") := by decide +kernel
def isNum : V → Bool
  | .int _ => true
  | _ => false
def isBad (k : Nat) : V → Bool
  | .int i => wrong k i
  | _ => false
/-- what stands behind a step's word -/
theorem StH.rest {H : Hp} {v : V} {t : Stp} (h : StH H v t) : ∃ (p : Addr) (rest : List V), v = .ref p ∧ H p = some (.tup (.str t.word :: rest)) ∧ rest.length ≤ 2 ∧ (t.word ≠ "hue" → rest.filter isNum = t.nums.map V.int) ∧ ∀ x ∈ rest, (∃ i, x = .int i) ∨ ∃ f xs, x = .ref f ∧ H f = some (.tup xs) := by
  cases t with
  | leaf w => obtain ⟨p, rfl, h⟩ := h; exact ⟨p, [], rfl, h, by decide, fun _ => rfl, fun x hx => by cases hx⟩
  | hue =>
    obtain ⟨p, rfl, h⟩ := h
    refine ⟨p, [.int 3], rfl, h, by decide, fun z => absurd rfl z, fun x hx => .inl ⟨3, List.mem_singleton.mp hx⟩⟩
  | turned i =>
    obtain ⟨p, rfl, h⟩ := h
    refine ⟨p, [.int i], rfl, h, (show 1 ≤ 2 by decide), fun _ => rfl, fun x hx => .inl ⟨i, List.mem_singleton.mp hx⟩⟩
  | two w i j =>
    obtain ⟨p, rfl, h⟩ := h
    refine ⟨p, [.int i, .int j], rfl, h, (show 2 ≤ 2 by decide), fun _ => rfl, fun x hx => ?_⟩
    simp only [List.mem_cons, List.not_mem_nil, or_false] at hx
    rcases hx with rfl | rfl
    · exact .inl ⟨i, rfl⟩
    · exact .inl ⟨j, rfl⟩
  | many i =>
    obtain ⟨p, f, rfl, h, h'⟩ := h
    refine ⟨p, [.ref f, .int i], rfl, h, (show 2 ≤ 2 by decide), fun _ => rfl, fun x hx => ?_⟩
    simp only [List.mem_cons, List.not_mem_nil, or_false] at hx
    rcases hx with rfl | rfl
    · exact .inr ⟨f, _, rfl, h'⟩
    · exact .inl ⟨i, rfl⟩
theorem hue_nums {t : Stp} (h : t.ok) (e : t.word = "hue") : t.nums = [] := by
  cases t with
  | leaf w => rfl
  | hue => rfl
  | turned i => exact absurd e (show ("turned" : Str) ≠ "hue" by decide +kernel)
  | two w i j =>
    have e' : w = "hue" := e
    subst e'
    rcases (show ("hue" : Str) = "plus" ∨ ("hue" : Str) = "then" ∨ ("hue" : Str) = "meet" from h) with z | z | z
    · exact absurd z (by decide +kernel)
    · exact absurd z (by decide +kernel)
    · exact absurd z (by decide +kernel)
  | many i => exact absurd e (show ("many" : Str) ≠ "hue" by decide +kernel)
theorem filt_ints (k : Nat) (ns : List Int) : (ns.map V.int).filter (isBad k) = (ns.filter (wrong k)).map V.int := by
  rw [List.filter_map]
  rfl
theorem filt_nil {k : Nat} {ns : List Int} : ns.filter (wrong k) = [] ↔ ns.any (wrong k) = false := by
  rw [List.filter_eq_nil_iff, List.any_eq_false]
theorem ok_due {f : Addr} {fd : FuncData} (B : BltR mg) (F : Fun K "_law_due" "_law_due" sDue f fd) : FnOk P w K mg base CX0 1 f fd ["_law_steps_here"] spDue := by
  refine F.ok scDue (fun vs H Q E h => ?_) (fun cdv A outer s H vs Q E hr h => ?_)
  · obtain ⟨a, vs', ss, rfl, _⟩ := h
    rfl
  · obtain ⟨a, vs, ss, rfl, ha, hS, hl, hok, q⟩ := h
    refine ⟨_, pss_cons (ps_for PassesOwn.never rfl (pi_enum rfl B.enum (pa_cons (pv 0) pa_nil)) (pg_tup rfl (pgs_cons (pg_name (i := 1) scDue.nd rfl (Or.inr rfl)) (pgs_cons (pg_name (i := 2) scDue.nd rfl (Or.inl rfl)) pgs_nil)))
        (pss_mid (ps_setLcs (i := 3) scDue.nd rfl (Or.inl rfl) rfl lcDue1 rfl (pi_tup (pe_slice sl_tup (pv 2) (po_some pe_int) po_none)) (pg_one lcDue1) (fun _ _ _ => pts_one (pt_not (pt_val (pe_callB (call_isinstK (K := K)) (by rfl) B.isi boot_isinstance (pa_cons (pv 4) (pa_cons (pe_bltn (v := .ty "tuple") rfl B.tuple boot_tuple' rfl) pa_nil)))))) (fun _ _ _ => pv 4))
        (pss_mid (ps_if (pt_cmpR op_eq (pe_ix ix_tup (pv 2) pe_int (fun _ _ => rfl)) pe_str (nomark _)) (pss_one (ps_set (i := 3) scDue.nd rfl (Or.inl rfl) (pe_lst pa_nil))) pss_nil)
        (pss_one (ps_if (pt_cmpR (op_neD hr.units) (pe_lcs rfl lcDue2 rfl (pi_list (pv 3)) (pg_one lcDue2) (fun _ _ _ => pts_one (PW.pt (pw_or (pt_cmpR op_lt (pv 4) pe_int (nomark _)) (pw_or1 (pt_cmpR op_ge (pv 4) (pv 1) (nomark _)))))) (fun _ _ _ => pv 4)) (pe_lst pa_nil) (nomark _)) (pss_one (ps_ret (pv 1))) pss_nil)))))
      (pss_one (ps_ret pe_non)), ?_⟩
    have lv := hS.len
    refine ⟨_, rfl, a, rfl, ⟨_, SqL.of ha⟩, for_enum (K := K) (xs := vs) (fun i σ H' => ∃ (o1 o2 o3 : Option V), σ = [some (.ref a), o1, o2, o3] ∧ Same H H' ∧ ∀ k < i, bad ss k = false) ?_ ?_ ?_ ?_⟩
    · exact ⟨none, none, none, rfl, Same.refl _, fun k hk => absurd hk (Nat.not_lt_zero _)⟩
    · rintro i σ H' _ ⟨o1, o2, o3, rfl, s', _⟩
      exact SqL.of (s' _ _ ha)
    · rintro i x t σ H' hx ⟨o1, o2, o3, rfl, s', hg⟩ ht
      obtain ⟨st, hst, hx'⟩ := hS.at i x hx
      have li := lt_get hst
      have tk := hok st (List.mem_of_getElem? hst)
      refine ⟨t, _, rfl, SqT.of upd_same, rfl, _, _, rfl, _, _, rfl, rfl, ?_⟩
      have s2 : Same H (upd H' t (.tup [.int (i : Int), x])) := s'.trans (Same.upd ht)
      generalize upd H' t (.tup [.int (i : Int), x]) = H2 at s2 ⊢
      obtain ⟨p, rest, rfl, ep, lr, hfl, hel⟩ := (hx'.keep (Same.keepT s2)).rest
      -- the numbers, or what else stands there
      refine ⟨fun σ H3 => ∃ R : Addr, σ = [some (.ref a), some (.int (i : Int)), some (.ref p), some (.ref R)] ∧ Same H2 H3 ∧ H3 R = some (.lst (rest.filter isNum)), ?_, ?_⟩
      · refine ⟨_, rfl, 1, rfl, p, _, rfl, SqT.of ep, ?_, fun q' hq' => ?_⟩
        · rintro ⟨h1, _⟩
          have h1' : HT.sIx (V.str st.word :: rest).length 0 (some ((1 : Nat) : Int)) = 0 := h1
          rw [HT.sIx_nat, List.length_cons] at h1'
          omega
        have e2 : cutV (V.str st.word :: rest) (some 1) none = rest := cut_behind [V.str st.word] rest
        rw [e2]
        have s3 : Same H2 (L2.upd H2 q' (.tup rest)) := Same.upd hq'
        have e3 : L2.upd H2 q' (.tup rest) q' = some (.tup rest) := upd_same
        generalize L2.upd H2 q' (.tup rest) = H3 at s3 e3 ⊢
        refine ⟨q', rfl, ⟨_, SqT.of e3⟩, ?_⟩
        refine lc_filt (xs := rest) isNum rfl (by omega) (fun j H' s4 hj => ⟨rest, rest[j], SqT.of (s4 _ _ e3), List.getElem?_eq_getElem hj⟩) (fun j H' z H4 s4 hy => ⟨hy.1, hy.2 rest (SqT.of (s4 _ _ e3))⟩) (fun H' s4 => ⟨rest, SqT.of (s4 _ _ e3), Nat.le_refl _⟩) (fun z H' Q' hz s4 hq => ?_) (fun z H' Q' hq => ⟨_, rfl, hq⟩) (fun D H' s4 eD => ⟨D, rfl, s3.trans s4, eD⟩)
        rcases hel z hz with ⟨y, rfl⟩ | ⟨f', xs', rfl, ef⟩
        · exact ⟨_, rfl, _, _, _, false, rfl, .int y, kitIT, _, rfl, hq⟩
        · exact ⟨_, rfl, _, _, _, true, rfl, .tup ((s3.trans s4) _ _ ef), kitTT, _, rfl, hq⟩
      rintro σ3 H3 ⟨R, rfl, s3, eR⟩
      refine ⟨fun σ H4 => ∃ R : Addr, σ = [some (.ref a), some (.int (i : Int)), some (.ref p), some (.ref R)] ∧ Same H2 H4 ∧ H4 R = some (.lst (st.nums.map V.int)), ?_, ?_⟩
      · refine ⟨_, rfl, p, _, _, _, rfl, rfl, SqT.of (s3 _ _ ep), at_hd _ _, rfl, _, rfl, ?_⟩
        by_cases hw : st.word = "hue"
        · refine itDP (by rw [hw]) ?_
          refine ⟨Nat.zero_le _, fun l hl' => ⟨l, rfl, s3.trans (Same.upd hl'), ?_⟩⟩
          rw [upd_same, hue_nums tk hw]
          rfl
        · refine itDN (sne hw) ⟨R, rfl, s3, ?_⟩
          rw [eR, hfl hw]
      clear s3 eR
      rintro σ4 H4 ⟨R, rfl, s4, eR⟩
      have ln := nums_len st
      refine ⟨_, rfl, R, rfl, ⟨_, SqL.of eR⟩, ?_⟩
      refine lc_filt (xs := st.nums.map V.int) (isBad i) rfl (by rw [List.length_map]; omega) (fun j H' s5 hj => ⟨_, _, SqL.of (s5 _ _ eR), List.getElem?_eq_getElem hj⟩) (fun j H' z H5 s5 hy => ⟨hy.1, hy.2 _ (SqL.of (s5 _ _ eR))⟩) (fun H' s5 => ⟨_, SqL.of (s5 _ _ eR), Nat.le_refl _⟩) (fun z H' Q' hz s5 hq => ?_) (fun z H' Q' hq => ⟨_, rfl, hq⟩) (fun D H5 s5 eD => ?_)
      · obtain ⟨y, _, rfl⟩ := List.mem_map.mp hz
        have hq' : Q' (wrong i y) H' := hq
        unfold wrong at hq'
        refine ⟨_, rfl, _, _, rfl, rfl, _, rfl, ?_⟩
        by_cases h0 : y < 0
        · refine itDP h0 ?_
          rw [decide_eq_true h0, Bool.true_or] at hq'
          exact hq'
        · refine itDN h0 ?_
          rw [decide_eq_false h0, Bool.false_or] at hq'
          exact ⟨_, rfl, _, rfl, _, _, rfl, rfl, _, rfl, hq'⟩
      · rw [filt_ints] at eD
        refine ⟨Nat.zero_le _, fun l hl' => ?_⟩
        have s6 : Same H5 (L2.upd H5 l (.lst [])) := Same.upd hl'
        have e6 : L2.upd H5 l (.lst []) l = some (.lst (([] : List Int).map V.int)) := upd_same
        generalize L2.upd H5 l (.lst []) = H6 at s6 e6 ⊢
        refine ⟨dI (st.nums.filter (wrong i)), dI [], daI trivial (SqL.of (s6 _ _ eD)), daI trivial (SqL.of e6), ⟨(lay_dI _).1, (lay_dI _).1, Nat.le_trans (lay_dI _).2 (by decide)⟩, _, rfl, ?_⟩
        rw [eqv_dI]
        have s06 : Same H H6 := ((s2.trans s4).trans s5).trans s6
        by_cases hb : st.nums.filter (wrong i) = []
        · refine iteNS hb ?_
          refine ⟨_, _, _, rfl, s06, fun k hk => ?_⟩
          by_cases hk' : k = i
          · subst hk'
            unfold bad
            rw [hst]
            exact filt_nil.mp hb
          · exact hg k (by omega)
        · refine iteNP hb ?_
          have hd := due_at hst (by
            show st.nums.any (wrong i) = true
            cases hz : st.nums.any (wrong i) with
            | true => rfl
            | false => exact absurd (filt_nil.mpr hz) hb) hg
          have := q H6 s06
          rw [hd] at this
          exact ⟨_, rfl, this⟩
    · rintro σ H' ⟨o1, o2, o3, rfl, s', hg⟩
      have hd := due_end (ss := ss) fun k hk => hg k (by omega)
      have := q H' s'
      rw [hd] at this
      exact this
end

/-! THE LAW: a whole number, the name, what is caught, its place -/
section
variable {P : Program} {w : World} {K : PySem.W.Frag} {mg : Str → Option Value} {base : Heap}
/-! ### _law_whole -/
def spWhole : Sp := fun vs H Q _ => ∃ i : Int, vs = [.int i] ∧ Q (.bl true) H
theorem kitII : PySem.W.kitOne K (.type "int") (.type "int") = some true := rfl
theorem kitIB : PySem.W.kitOne K (.type "int") (.type "bool") = some false := by
  with_unfolding_all rfl
theorem scWhole : FnScope ["_law_found"] ["_law_found"] (defScope sWhole) := ⟨rfl, rfl, rfl, by decide +kernel, rfl, by decide +kernel, by decide +kernel⟩
theorem ok_whole {f : Addr} {fd : FuncData} (B : BltR mg) (F : Fun K "_law_whole" "_law_whole" sWhole f fd) : FnOk P w K mg base CX0 1 f fd ["_law_found"] spWhole := by
  refine F.ok scWhole (fun vs H Q E h => ?_) (fun cdv A outer s H vs Q E hr h => ?_)
  · obtain ⟨i, rfl, _⟩ := h
    rfl
  · obtain ⟨i, rfl, k⟩ := h
    refine ⟨_, pss_one (ps_ret (pe_and (pe_callB call_isinst (by rfl) B.isi boot_isinstance (pa_cons (pv 0) (pa_cons (pe_bltn (v := .ty "int") rfl B.int boot_int rfl) pa_nil)))
      (pe_one (pe_not (pe_callB call_isinst (by rfl) B.isi boot_isinstance (pa_cons (pv 0) (pa_cons (pe_bltn (v := .ty "bool") rfl B.bool boot_bool rfl) pa_nil))))))), ?_⟩
    refine ⟨_, rfl, _, _, _, true, rfl, .int i, kitII, _, rfl, iteT ?_⟩
    exact ⟨_, rfl, _, _, _, false, rfl, .int i, kitIB, _, rfl, k⟩
/-! ### _law_is -/
structure ClsOf (K : PySem.W.Frag) (mg : Str → Option Value) (CN : Addr) (x : Str) (b : Bool) : Prop where
  ex : ∃ C : Addr, mg x = some (.ref C) ∧ PySem.W.kitOne K (.ref CN) (.ref C) = some b
def spIs (CN : Addr) : Sp := fun vs H Q _ => ∃ (a : Addr) (dd : Option Addr), vs = [.ref a, .int 1] ∧ H a = some (excHO a CN dd) ∧ ∀ H', Same H H' → Q (.bl true) H'
abbrev nIs : List Str := ["_law_caught_here", "_law_at", "_law_told"]
theorem scIs : FnScope nIs ["_law_caught_here", "_law_at"] (defScope sIs) := ⟨rfl, rfl, rfl, by decide +kernel, rfl, by decide +kernel, by decide +kernel⟩
def cmpR (s : Stmt) : Expr := match s with
  | .If (.Compare _ _ [b] _) _ _ _ => b
  | _ => .Constant .none 0 ⟨0, 0, 0, 0⟩
theorem lcIs : LcScopes (defScope sIs) nIs (lcScope (cmpR (bodyAt sIs 2))) ["_law_k"] := ⟨by decide +kernel, rfl, by decide +kernel, by decide +kernel, by decide +kernel, by decide +kernel, by decide +kernel, by decide +kernel, by decide +kernel, by decide +kernel⟩
theorem boot_verr : bootBuiltins "ValueError" = some (.type "ValueError") := by decide +kernel
theorem das_bls {ok : Addr → Prop} {H : Hp} : ∀ ns : List Bool, DAs K ok H (ns.map V.bl) (ns.map .bool)
  | [] => .nil
  | n :: ns => .cons (.bl n) (das_bls ns)
theorem ok_is {f CN : Addr} {fd : FuncData} {bmN : List Value} (B : BltR mg) (ZN : ExcW K CN bmN) (c1 : ClsOf K mg CN "NoWeb" false) (c2 : ClsOf K mg CN "NoStep" true) (c3 : ClsOf K mg CN "NoOrder" false) (c4 : ClsOf K mg CN "NoText" false) (c5 : ClsOf K mg CN "NoName" false) (c6 : ClsOf K mg CN "NoLine" false)
    (hv : PySem.W.kitOne K (.ref CN) (.type "ValueError") = some true) (F : Fun K "_law_is" "_law_is" sIs f fd) : FnOk P w K mg base CX0 1 f fd ["_law_caught_here", "_law_at"] (spIs CN) := by
  obtain ⟨C1, g1, k1⟩ := c1.ex
  obtain ⟨C2, g2, k2⟩ := c2.ex
  obtain ⟨C3, g3, k3⟩ := c3.ex
  obtain ⟨C4, g4, k4⟩ := c4.ex
  obtain ⟨C5, g5, k5⟩ := c5.ex
  obtain ⟨C6, g6, k6⟩ := c6.ex
  refine F.ok scIs (fun vs H Q E h => ?_) (fun cdv A outer s H vs Q E hr h => ?_)
  · obtain ⟨a, dd, rfl, _⟩ := h
    rfl
  · obtain ⟨a, dd, rfl, ha, q⟩ := h
    refine ⟨_, pss_cons (ps_set (i := 2) scIs.nd rfl (Or.inl rfl) (pe_lst (pa_cons (pe_callB (call_isinstX ZN) (by rfl) B.isi boot_isinstance (pa_cons (pv 0) (pa_cons (pe_glob (v := .ref C1) rfl g1 rfl) pa_nil))) (pa_cons (pe_callB (call_isinstX ZN) (by rfl) B.isi boot_isinstance (pa_cons (pv 0) (pa_cons (pe_glob (v := .ref C2) rfl g2 rfl) pa_nil))) (pa_cons (pe_callB (call_isinstX ZN) (by rfl) B.isi boot_isinstance (pa_cons (pv 0) (pa_cons (pe_glob (v := .ref C3) rfl g3 rfl) pa_nil))) pa_nil)))))
      (pss_cons (ps_set (i := 2) scIs.nd rfl (Or.inl rfl) (pe_op op_cat (pv 2) (pe_lst (pa_cons (pe_callB (call_isinstX ZN) (by rfl) B.isi boot_isinstance (pa_cons (pv 0) (pa_cons (pe_glob (v := .ref C4) rfl g4 rfl) pa_nil))) (pa_cons (pe_callB (call_isinstX ZN) (by rfl) B.isi boot_isinstance (pa_cons (pv 0) (pa_cons (pe_glob (v := .ref C5) rfl g5 rfl) pa_nil))) (pa_cons (pe_callB (call_isinstX ZN) (by rfl) B.isi boot_isinstance (pa_cons (pv 0) (pa_cons (pe_glob (v := .ref C6) rfl g6 rfl) pa_nil))) pa_nil))))))
      (pss_cons (ps_if (pt_cmpR (op_neD hr.units) (pv 2) (pe_lc1 rfl lcIs rfl (pi_range1 rfl B.range (pa_cons pe_int pa_nil)) (fun _ _ _ => pe_cmpR op_eq (pv 3) (pv 1) (nomark _))) (nomark _)) (pss_one (ps_ret pe_bl)) pss_nil)
      (pss_one (ps_ret (pe_or (pe_and (pe_cmpR op_eq (pv 1) pe_int (nomark _)) (pe_one (pe_cmpR op_isN (pv 0) pe_non (nomark _)))) (pe_one (pe_callB (call_isinstX ZN) (by rfl) B.isi boot_isinstance (pa_cons (pv 0) (pa_cons (pe_bltn (v := .ty "ValueError") rfl B.verr boot_verr rfl) pa_nil))))))))), ?_⟩
    refine ⟨_, rfl, a, dd, _, _, _, rfl, ha, rfl, k1, _, rfl, a, dd, _, _, _, rfl, ha, rfl, k2, _, rfl, a, dd, _, _, _, rfl, ha, rfl, k3, (by show 3 ≤ sizeLine; decide), fun l1 hl1 => ?_⟩
    have s1 : Same H (L2.upd H l1 (.lst [.bl false, .bl true, .bl false])) := Same.upd hl1
    have e1 : L2.upd H l1 (.lst [.bl false, .bl true, .bl false]) l1 = some (.lst [.bl false, .bl true, .bl false]) := upd_same
    generalize L2.upd H l1 (.lst [.bl false, .bl true, .bl false]) = H1 at s1 e1 ⊢
    have ha1 := s1 _ _ ha
    refine ⟨_, rfl, _, rfl, a, dd, _, _, _, rfl, ha1, rfl, k4, _, rfl, a, dd, _, _, _, rfl, ha1, rfl, k5, _, rfl, a, dd, _, _, _, rfl, ha1, rfl, k6, (by show 3 ≤ sizeLine; decide), fun l2 hl2 => ?_⟩
    have s2 : Same H1 (L2.upd H1 l2 (.lst [.bl false, .bl false, .bl false])) := Same.upd hl2
    have e2 : L2.upd H1 l2 (.lst [.bl false, .bl false, .bl false]) l2 = some (.lst [.bl false, .bl false, .bl false]) := upd_same
    generalize L2.upd H1 l2 (.lst [.bl false, .bl false, .bl false]) = H2 at s2 e2 ⊢
    refine ⟨l1, l2, _, _, rfl, rfl, s2 _ _ e1, e2, (by show 6 ≤ sizeLine; decide), fun l3 hl3 => ?_⟩
    have s3 : Same H2 (L2.upd H2 l3 (.lst ([.bl false, .bl true, .bl false] ++ [.bl false, .bl false, .bl false]))) := Same.upd hl3
    have e3 : L2.upd H2 l3 (.lst ([.bl false, .bl true, .bl false] ++ [.bl false, .bl false, .bl false])) l3 = some (.lst ([false, true, false, false, false, false].map V.bl)) := upd_same
    generalize L2.upd H2 l3 (.lst ([.bl false, .bl true, .bl false] ++ [.bl false, .bl false, .bl false])) = H3 at s3 e3 ⊢
    have t3 := (s1.trans s2).trans s3
    refine ⟨_, rfl, 6, rfl, by decide, by decide, fun D hD => ?_⟩
    refine lc_range (lo := 0) (n := 6) (fun i ys H' => ys = ((List.range i).map fun k => V.bl (k == 1)) ∧ H' = upd H3 D (.lst ys)) ⟨rfl, rfl⟩ (fun i ys H' _ ⟨_, e⟩ => by rw [e]; exact upd_same) ?_ ?_ ?_
    · rintro i ys H4 hi ⟨rfl, rfl⟩
      refine ⟨_, rfl, _, rfl, rfl, upd_same, small1000 (by rw [List.length_map, List.length_range]; omega), ?_, by rw [upd_upd]⟩
      rw [List.range_succ, List.map_append]
      congr 2
      match i, hi with
      | 0, _ => rfl
      | 1, _ => rfl
      | 2, _ => rfl
      | 3, _ => rfl
      | 4, _ => rfl
      | 5, _ => rfl
    · rintro ys H4 ⟨rfl, rfl⟩
      have s4 : Same H3 (L2.upd H3 D (.lst ((List.range 6).map fun k => V.bl (k == 1)))) := Same.upd hD
      have e4 : L2.upd H3 D (.lst ((List.range 6).map fun k => V.bl (k == 1))) D = some (.lst ([false, true, false, false, false, false].map V.bl)) := upd_same
      generalize L2.upd H3 D (.lst ((List.range 6).map fun k => V.bl (k == 1))) = H5 at s4 e4 ⊢
      refine ⟨.list ([false, true, false, false, false, false].map .bool), .list ([false, true, false, false, false, false].map .bool), .lst trivial (SqL.of (s4 _ _ e3)) (das_bls _), .lst trivial (SqL.of e4) (das_bls _), ⟨rfl, rfl, by decide⟩, _, rfl, iteF ?_⟩
      refine ⟨_, rfl, rfl, false, rfl, iteF ?_⟩
      refine ⟨false, rfl, iteF ?_⟩
      exact ⟨_, rfl, a, dd, _, _, _, rfl, s4 _ _ (t3 _ _ ha), rfl, hv, q _ (t3.trans s4)⟩
    · rintro σ H' Q1 Q2 hq ⟨v, x1, v2, x2, x3, x4⟩
      exact ⟨v, x1, v2, x2, x3, hq _ _ x4⟩
/-! ### _law_caught -/
def spCaught (K : PySem.W.Frag) (CS : Addr) : Sp := fun vs H Q _ => ∃ (a : Addr) (ss : List Stp) (y : Int), vs = [.ref a, .int y] ∧ StsAt H a ss ∧ 0 < ss.length ∧ ss.length ≤ 12 ∧ (∀ t ∈ ss, t.ok) ∧ (due ss = none → ∀ H', Same H H' → Q .non H') ∧
  ∀ u, due ss = some u → ∀ x dx H', Same H H' → H' x = some (excHO x CS (some dx)) → Q (.ref x) H'
abbrev nCaught : List Str := ["_law_steps_here", "_law_way", "_law_web", "_law_caught_here", "e"]
abbrev aCaught : List Str := ["_law_steps_here", "_law_way"]
theorem scCaught : FnScope nCaught aCaught (defScope sCaught) := ⟨rfl, rfl, rfl, by decide +kernel, rfl, by decide +kernel, by decide +kernel⟩
theorem ok_caught {f fL fT fO fI CS CK : Addr} {fd fdL fdT fdO : FuncData} (Z : ExcI K CS CK fI) (hK : mg "KinError" = some (.ref CK)) (F : Fun K "_law_caught" "_law_caught" sCaught f fd)
    (DL : Dn K mg "look_at_steps" sLook ["steps"] fL fdL) (GL : FnOk P w K mg base (CXd P w) 3 fL fdL ["steps"] (spLook K CS))
    (DT : Dn K mg "tables_of_steps" sTables ["web", "steps"] fT fdT) (GT : FnOk P w K mg base (CXd P w) 9 fT fdT ["web", "steps"] (spTables K CS))
    (DO : Dn K mg "steps_total" sTotal ["web", "steps"] fO fdO) (GO : FnOk P w K mg base (CXd P w) 9 fO fdO ["web", "steps"] (spTables K CS)) :
    FnOk P w K mg base CX0 10 f fd aCaught (spCaught K CS) := by
  refine F.ok scCaught (fun vs H Q E h => ?_) (fun cdv A outer s H vs Q E hr h => ?_)
  · obtain ⟨a, ss, y, rfl, _⟩ := h
    rfl
  · obtain ⟨a, ss, y, rfl, hS, h0, hl, hok, q1, q2⟩ := h
    have r3 := hr.mono (j := 3) (by decide)
    refine ⟨_, pss_cons (ps_set (i := 2) scCaught.nd rfl (Or.inl rfl) (pe_tup (pa_cons (pe_lst (pa_cons pe_int (pa_cons pe_int pa_nil))) (pa_cons (pe_lst (pa_cons (pe_lst (pa_cons pe_int (pa_cons pe_int pa_nil))) (pa_cons (pe_lst (pa_cons pe_int (pa_cons pe_int pa_nil))) pa_nil))) pa_nil))))
      (pss_cons (ps_set (i := 3) scCaught.nd rfl (Or.inl rfl) pe_non)
      (pss_cons (ps_tryB (i := 4) rfl rfl rfl (py_if (pt_cmpR op_eq (pv 1) pe_int (nomark _)) (py_call DL GL r3 rfl (pa_cons (pv 0) pa_nil)) (py_if (pt_cmpR op_eq (pv 1) pe_int (nomark _)) (py_call DT GT hr rfl (pa_cons (pv 2) (pa_cons (pv 0) pa_nil))) (py_call DO GO hr rfl (pa_cons (pv 2) (pa_cons (pv 0) pa_nil)))))
          Z.bs.w rfl hK scCaught.nd rfl rfl (fun a => pss_one (ps_set (i := 3) scCaught.nd rfl (Or.inl rfl) (pv 4))))
      (pss_one (ps_ret (pv 3))))), ?_⟩
    refine ⟨(by show 2 ≤ sizeLine; decide), fun hA hhA => ?_⟩
    have s1 : Same H (L2.upd H hA (.lst [.int 0, .int 3])) := Same.upd hhA
    have e1 : L2.upd H hA (.lst [.int 0, .int 3]) hA = some (.lst [.int 0, .int 3]) := upd_same
    generalize L2.upd H hA (.lst [.int 0, .int 3]) = H1 at s1 e1 ⊢
    refine ⟨(by show 2 ≤ sizeLine; decide), fun r0 hr0 => ?_⟩
    have s2 : Same H1 (L2.upd H1 r0 (.lst [.int 1, .int 2])) := Same.upd hr0
    have e2 : L2.upd H1 r0 (.lst [.int 1, .int 2]) r0 = some (.lst [.int 1, .int 2]) := upd_same
    generalize L2.upd H1 r0 (.lst [.int 1, .int 2]) = H2 at s2 e2 ⊢
    refine ⟨(by show 2 ≤ sizeLine; decide), fun r1 hr1 => ?_⟩
    have s3 : Same H2 (L2.upd H2 r1 (.lst [.int 2, .int 0])) := Same.upd hr1
    have e3 : L2.upd H2 r1 (.lst [.int 2, .int 0]) r1 = some (.lst [.int 2, .int 0]) := upd_same
    generalize L2.upd H2 r1 (.lst [.int 2, .int 0]) = H3 at s3 e3 ⊢
    refine ⟨(by show 2 ≤ sizeLine; decide), fun rA hrA => ?_⟩
    have s4 : Same H3 (L2.upd H3 rA (.lst [.ref r0, .ref r1])) := Same.upd hrA
    have e4 : L2.upd H3 rA (.lst [.ref r0, .ref r1]) rA = some (.lst [.ref r0, .ref r1]) := upd_same
    generalize L2.upd H3 rA (.lst [.ref r0, .ref r1]) = H4 at s4 e4 ⊢
    refine ⟨(by show 2 ≤ sizeLine; decide), fun wA hwA => ?_⟩
    have s5 : Same H4 (L2.upd H4 wA (.tup [.ref hA, .ref rA])) := Same.upd hwA
    have e5 : L2.upd H4 wA (.tup [.ref hA, .ref rA]) wA = some (.tup [.ref hA, .ref rA]) := upd_same
    generalize L2.upd H4 wA (.tup [.ref hA, .ref rA]) = H5 at s5 e5 ⊢
    have s24 := (s2.trans s3).trans s4
    have s05 := (s1.trans s24).trans s5
    have hW : WebK H5 wA := ⟨hA, rA, r0, r1, e5, s5 _ _ (s24 _ _ e1), s5 _ _ e4, s5 _ _ (s4 _ _ (s3 _ _ e2)), s5 _ _ (s4 _ _ e3)⟩
    have hS5 := hS.mono s05
    -- behind the call
    have good : ∀ H6, Same H5 H6 → due ss = none → Q .non H6 := fun H6 s6 hd => q1 hd H6 (s05.trans s6)
    refine ⟨_, rfl, rfl, _, rfl, ?_⟩
    have bads : EOk CS ss H5 (fun cv dd H2 => ∃ C bm, cv = .ref C ∧ ExcW K C bm ∧ (Value.ref C :: bm).contains (.ref CK) = true ∧ ∀ x, H2 x = none → Q (.ref x) (upd H2 x (excHO x C dd))) := fun u hu H' dx s' hdx => ⟨CS, _, rfl, Z.w, by simp, fun x hx => q2 u hu x dx _ ((s05.trans s').trans ((Same.upd hdx).trans (Same.upd hx))) upd_same⟩
    refine ite2 (fun _ => ?_) (fun _ => ?_)
    · refine ⟨_, rfl, a, ss, rfl, hS5, hl, hok, fun hd H6 s6 => ⟨_, rfl, good H6 s6 hd⟩, fun u hu H' dx s' hdx => ?_⟩
      obtain ⟨C, bm, e1, e2, e3, e4⟩ := bads u hu H' dx s' hdx
      exact ⟨C, bm, e1, e2, e3, fun x hx => ⟨_, rfl, _, rfl, e4 x hx⟩⟩
    · refine ⟨_, rfl, rfl, _, rfl, ?_⟩
      refine ite2 (fun _ => ?_) (fun _ => ?_)
      · refine ⟨_, rfl, _, rfl, wA, a, ss, rfl, hW, hS5, hl, h0, hok, fun hd z H6 s6 => ⟨_, rfl, good H6 s6 hd⟩, fun u hu H' dx s' hdx => ?_⟩
        obtain ⟨C, bm, e1, e2, e3, e4⟩ := bads u hu H' dx s' hdx
        exact ⟨C, bm, e1, e2, e3, fun x hx => ⟨_, rfl, _, rfl, e4 x hx⟩⟩
      · refine ⟨_, rfl, _, rfl, wA, a, ss, rfl, hW, hS5, hl, h0, hok, fun hd z H6 s6 => ⟨_, rfl, good H6 s6 hd⟩, fun u hu H' dx s' hdx => ?_⟩
        obtain ⟨C, bm, e1, e2, e3, e4⟩ := bads u hu H' dx s' hdx
        exact ⟨C, bm, e1, e2, e3, fun x hx => ⟨_, rfl, _, rfl, e4 x hx⟩⟩
/-! ### _law_place -/
def spPlace (K : PySem.W.Frag) : Sp := fun vs H Q _ => ∃ (a : Addr) (ss : List Stp) (u : Nat), vs = [.ref a] ∧ StsAt H a ss ∧ ss.length ≤ 12 ∧ (∀ t ∈ ss, t.ok) ∧ due ss = some u ∧ ∀ H', Same H H' → Q (.int (u : Int)) H'
abbrev nPlace : List Str := ["_law_steps_here", "_law_place_here", "e"]
theorem scPlace : FnScope nPlace ["_law_steps_here"] (defScope sPlace) := ⟨rfl, rfl, rfl, by decide +kernel, rfl, by decide +kernel, by decide +kernel⟩
theorem ok_place {f fL fI CS CK : Addr} {fd fdL : FuncData} (Z : ExcI K CS CK fI) (hp : PySem.W.findIn K (.ref CS) "place" = some none) (hS : mg "NoStep" = some (.ref CS)) (F : Fun K "_law_place" "_law_place" sPlace f fd) (DL : Dn K mg "look_at_steps" sLook ["steps"] fL fdL) (GL : FnOk P w K mg base (CXd P w) 3 fL fdL ["steps"] (spLook K CS)) :
    FnOk P w K mg base CX0 4 f fd ["_law_steps_here"] (spPlace K) := by
  refine F.ok scPlace (fun vs H Q E h => ?_) (fun cdv A outer s H vs Q E hr h => ?_)
  · obtain ⟨a, ss, u, rfl, _⟩ := h
    rfl
  · obtain ⟨a, ss, u, rfl, hT, hl, hok, hu, q⟩ := h
    refine ⟨_, pss_cons (ps_set (i := 1) scPlace.nd rfl (Or.inl rfl) (pe_un un_neg pe_int))
      (pss_cons (ps_try (i := 2) rfl rfl rfl DL GL hr rfl (pa_cons (pv 0) pa_nil) Z.w rfl hS scPlace.nd rfl rfl (fun a => pss_one (ps_set (i := 1) scPlace.nd rfl (Or.inl rfl) (pe_getX Z hp (pv 2)))))
      (pss_one (ps_ret (pv 1)))), ?_⟩
    refine ⟨_, rfl, _, rfl, a, ss, rfl, hT, hl, hok, (fun hd => by rw [hd] at hu; cases hu), fun u' hu' H' dx s' hdx => ⟨CS, _, rfl, Z.w, by simp, fun x hx => ?_⟩⟩
    rw [hu] at hu'
    cases hu'
    have hda : dx ≠ x := ne_of_none upd_same hx
    refine ⟨_, rfl, x, dx, _, _, rfl, upd_same, by rw [upd_ne hda]; exact upd_same, rfl, (fun i z => by cases z), ?_⟩
    exact ⟨_, rfl, q _ (s'.trans ((Same.upd hdx).trans (Same.upd hx)))⟩
end

/-! THE LAW -/
section
variable {P : Program} {w : World} {K : PySem.W.Frag} {mg : Str → Option Value} {base : Heap}
theorem But.same {d : Addr} {H0 H H' : Hp} (s : Same H0 H) (hd : H0 d = none) (b : But d H H') : Same H0 H' := fun c o e => b c o (ne_of_none e (by exact hd)) (s c o e)
def spLaw (K : PySem.W.Frag) : Sp := fun vs H Q _ => ∃ (a : Addr) (ns : List Int), vs = [.ref a] ∧ SqL K H a (ns.map V.int) ∧ ns.length ≤ 63 ∧ ∀ H', Q (.bl true) H'
/-! ### steps compared -/
theorem eqv_st (t : Stp) : PyData.eqv t.dat t.dat = true := by
  cases t <;> simp [Stp.dat, PyData.eqv, PyData.eqvAll]
theorem eqv_sts : ∀ ss : List Stp, PyData.eqvAll (ss.map Stp.dat) (ss.map Stp.dat) = true
  | [] => rfl
  | t :: ss => by
    rw [List.map_cons]
    simp only [PyData.eqvAll, eqv_st t, eqv_sts ss, Bool.and_self]
theorem lay_st {t : Stp} (h : t.ok) : t.dat.canLay0 = true ∧ t.dat.depth ≤ 2 := by
  cases t with
  | leaf w => rcases (show w = "same" ∨ w = "tie" ∨ w = "all" from h) with rfl | rfl | rfl <;> exact ⟨by decide +kernel, by decide +kernel⟩
  | hue => exact ⟨by decide +kernel, by decide +kernel⟩
  | turned i =>
    have e : (PyData.str "turned").canLay0 = true := by decide +kernel
    simp only [Stp.dat, PyData.canLay0, PyData.canLayAll0, PyData.depth, PyData.depthAll, e, Bool.and_self, true_and] at *
    simp_all
  | two w i j =>
    have e : (PyData.str w).canLay0 = true := by rcases (show w = "plus" ∨ w = "then" ∨ w = "meet" from h) with rfl | rfl | rfl <;> decide +kernel
    simp only [Stp.dat, PyData.canLay0, PyData.canLayAll0, PyData.depth, PyData.depthAll, Bool.and_self, true_and] at *
    simp_all
  | many i =>
    have e : (PyData.str "many").canLay0 = true := by decide +kernel
    simp only [Stp.dat, PyData.canLay0, PyData.canLayAll0, PyData.depth, PyData.depthAll, Bool.and_self, true_and] at *
    simp_all
theorem lay_sts : ∀ {ss : List Stp}, (∀ t ∈ ss, t.ok) → PyData.canLayAll0 (ss.map Stp.dat) = true ∧ PyData.depthAll (ss.map Stp.dat) ≤ 2
  | [], _ => ⟨rfl, Nat.zero_le _⟩
  | t :: ss, h => by
    obtain ⟨a, b⟩ := lay_st (h t List.mem_cons_self)
    obtain ⟨c, d⟩ := lay_sts fun x hx => h x (List.mem_cons_of_mem _ hx)
    rw [List.map_cons]
    simp only [PyData.canLayAll0, PyData.depthAll, a, c, Bool.and_self, true_and]
    omega
abbrev nLaw : List Str := ["_law_script", "_law_cell", "_law_steps_here", "_law_beside", "_law_due_here", "_law_way", "_law_caught_here"]
theorem scLaw : FnScope nLaw ["_law_script"] (defScope sLaw) := ⟨rfl, rfl, rfl, by decide +kernel, rfl, by decide +kernel, by decide +kernel⟩
theorem ok_law {f fB fS fD fC fI fP fWh CS : Addr} {fd fdB fdS fdD fdC fdI fdP fdWh : FuncData} (B : BltR mg) (F : Fun K "law" "law" sLaw f fd)
    (DB : Dn K mg "_law_begun" sBegun ["_law_cell"] fB fdB) (GB : FnOk P w K mg base CX0 1 fB fdB ["_law_cell"] spBegun)
    (DS : Dn K mg "_law_steps" sSteps ["_law_draw"] fS fdS) (GS : FnOk P w K mg base CX0 4 fS fdS ["_law_draw"] spSteps)
    (DD : Dn K mg "_law_due" sDue ["_law_steps_here"] fD fdD) (GD : FnOk P w K mg base CX0 1 fD fdD ["_law_steps_here"] spDue)
    (DC : Dn K mg "_law_caught" sCaught aCaught fC fdC) (GC : FnOk P w K mg base CX0 10 fC fdC aCaught (spCaught K CS))
    (DI : Dn K mg "_law_is" sIs ["_law_caught_here", "_law_at"] fI fdI) (GI : FnOk P w K mg base CX0 1 fI fdI ["_law_caught_here", "_law_at"] (spIs CS))
    (DP : Dn K mg "_law_place" sPlace ["_law_steps_here"] fP fdP) (GP : FnOk P w K mg base CX0 4 fP fdP ["_law_steps_here"] (spPlace K))
    (DWh : Dn K mg "_law_whole" sWhole ["_law_found"] fWh fdWh) (GWh : FnOk P w K mg base CX0 1 fWh fdWh ["_law_found"] spWhole) :
    FnOk P w K mg base CX0 11 f fd ["_law_script"] (spLaw K) := by
  refine F.ok scLaw (fun vs H Q E h => ?_) (fun cdv A outer s H vs Q E hr h => ?_)
  · obtain ⟨a, ns, rfl, _⟩ := h
    rfl
  · obtain ⟨a, ns, rfl, hSc, hlen, k⟩ := h
    have r1 := hr.mono (j := 1) (by decide)
    have r4 := hr.mono (j := 4) (by decide)
    refine ⟨_, pss_cons (ps_for PassesOwn.never rfl (pi_list (pe_op op_cat (pe_slice sl_list (pv 0) po_none (po_some pe_int)) (pe_lst (pa_cons pe_int pa_nil)))) (pg_name (i := 1) scLaw.nd rfl (Or.inl rfl))
        (pss_cons (ps_set (i := 2) scLaw.nd rfl (Or.inl rfl) (pe_fn DS GS r4 rfl (pa_cons (pe_fn DB GB r1 rfl (pa_cons (pv 1) pa_nil)) pa_nil)))
        (pss_cons (ps_set (i := 3) scLaw.nd rfl (Or.inl rfl) (pe_callTy call_list_of (by rfl) B.list boot_list (pa_cons (pv 2) pa_nil)))
        (pss_cons (ps_set (i := 4) scLaw.nd rfl (Or.inl rfl) (pe_fn DD GD r1 rfl (pa_cons (pv 2) pa_nil)))
        (pss_cons (ps_for PassesOwn.never rfl (pi_range1 rfl B.range (pa_cons pe_int pa_nil)) (pg_name (i := 5) scLaw.nd rfl (Or.inl rfl))
          (pss_cons (ps_set (i := 6) scLaw.nd rfl (Or.inl rfl) (pe_fn DC GC hr rfl (pa_cons (pv 2) (pa_cons (pv 5) pa_nil))))
          (pss_one (ps_if (PW.pt (pw_or (PW.pt (pw_and (pt_cmpR op_isN (pv 4) pe_non (nomark _)) (pw_and1 (pt_cmpR op_notN (pv 6) pe_non (nomark _))))) (pw_or1 (PW.pt (pw_and (pt_cmpR op_notN (pv 4) pe_non (nomark _)) (pw_and1 (pt_not (pt_val (pe_fn DI GI r1 rfl (pa_cons (pv 6) (pa_cons pe_int pa_nil)))))))))))
            (pss_one (ps_ret pe_bl)) pss_nil))))
        (pss_mid (ps_if (PW.pt (pw_and (pt_cmpR op_notN (pv 4) pe_non (nomark _)) (pw_and1 (PW.pt (pw_or (pt_not (pt_val (pe_fn DWh GWh r1 rfl (pa_cons (pe_fn DP GP r4 rfl (pa_cons (pv 2) pa_nil)) pa_nil)))) (pw_or1 (pt_cmpR op_ne (pe_fn DP GP r4 rfl (pa_cons (pv 2) pa_nil)) (pv 4) (nomark _))))))))
          (pss_one (ps_ret pe_bl)) pss_nil)
        (pss_one (ps_if (pt_cmpR (op_neD hr.units) (pv 2) (pv 3) (nomark _)) (pss_one (ps_ret pe_bl)) pss_nil))))))))
      (pss_one (ps_ret pe_bl)), ?_⟩
    obtain ⟨ms, em, lm⟩ := cut_ints ns none (some 30)
    refine ⟨_, rfl, 30, rfl, a, _, rfl, hSc, fun p0 hp0 => ?_⟩
    rw [em]
    have s0 : Same H (L2.upd H p0 (.lst (ms.map V.int))) := Same.upd hp0
    have e0 : L2.upd H p0 (.lst (ms.map V.int)) p0 = some (.lst (ms.map V.int)) := upd_same
    generalize L2.upd H p0 (.lst (ms.map V.int)) = Ha at s0 e0 ⊢
    refine ⟨(by show 1 ≤ sizeLine; decide), fun p1 hp1 => ?_⟩
    have s1 : Same Ha (L2.upd Ha p1 (.lst [.int 0])) := Same.upd hp1
    have e1 : L2.upd Ha p1 (.lst [.int 0]) p1 = some (.lst [.int 0]) := upd_same
    generalize L2.upd Ha p1 (.lst [.int 0]) = Hb at s1 e1 ⊢
    refine ⟨p0, p1, _, _, rfl, rfl, s1 _ _ e0, e1, Nat.le_of_lt (small1000 (by rw [List.length_map]; show ms.length + 1 ≤ 1000; omega)), fun L hL => ?_⟩
    have ec : ms.map V.int ++ [V.int 0] = (ms ++ [0]).map V.int := by rw [List.map_append]; rfl
    rw [ec]
    have e2 : L2.upd Hb L (.lst ((ms ++ [0]).map V.int)) L = some (.lst ((ms ++ [0]).map V.int)) := upd_same
    generalize L2.upd Hb L (.lst ((ms ++ [0]).map V.int)) = Hc at e2 ⊢
    refine ⟨L, rfl, ⟨_, SqL.of e2⟩, for_list (xs := (ms ++ [0]).map V.int) (fun i σ H' => ∃ (o1 o2 o3 o4 o5 o6 : Option V), σ = [some (.ref a), o1, o2, o3, o4, o5, o6] ∧ Same Hc H') ⟨none, none, none, none, none, none, rfl, Same.refl _⟩ (fun i σ H' _ ⟨_, _, _, _, _, _, _, sH⟩ => SqL.of (sH _ _ e2)) ?_ ?_⟩
    · rintro i x σ H1 hx ⟨o1, o2, o3, o4, o5, o6, rfl, sH⟩
      obtain ⟨c, hc, rfl⟩ := map_get hx
      refine ⟨_, rfl, c, rfl, fun d H2 hd s2 dd => ?_⟩
      refine ⟨d, 1, rfl, dd, by decide, fun R vs ss H3 m S h0 hl => ?_⟩
      have t3 : Same H1 H3 := But.same s2 hd S.but
      have eR := S.lst
      have hS := S.sts
      have hok := S.ok
      clear S s2 dd hd
      refine ⟨_, rfl, R, _, rfl, .inl (SqL.of eR), fun p3 hp3 => ?_⟩
      have s4 : Same H3 (L2.upd H3 p3 (.lst vs)) := Same.upd hp3
      have e4 : L2.upd H3 p3 (.lst vs) p3 = some (.lst vs) := upd_same
      generalize L2.upd H3 p3 (.lst vs) = H4 at s4 e4 ⊢
      have hT : StsAt H4 R ss := ⟨vs, s4 _ _ eR, hS.keep (Same.keepT s4)⟩
      refine ⟨_, rfl, R, vs, ss, rfl, s4 _ _ eR, hS.keep (Same.keepT s4), hl, hok, fun H5 s5 => ?_⟩
      refine ⟨3, rfl, by decide, by decide, for_range (n := 3) (fun i σ H' => ∃ (o5 o6 : Option V), σ = [some (.ref a), some (.int c), some (.ref R), some (.ref p3), some (dueV (due ss)), o5, o6] ∧ Same H4 H') ⟨_, _, rfl, s5⟩ ?_ ?_⟩
      · rintro j σ H6 hj ⟨o5, o6, rfl, s6⟩
        refine ⟨_, rfl, _, rfl, R, ss, _, rfl, hT.mono s6, h0, hl, hok, fun hd H7 s7 => ?_, fun u hu x dx H7 s7 hx => ?_⟩
        · rw [hd]
          refine ⟨_, rfl, rfl, _, rfl, iteT ⟨_, rfl, rfl, _, rfl, iteF ⟨_, rfl, rfl, _, rfl, iteF (iteF ?_)⟩⟩⟩
          exact ⟨_, _, rfl, s6.trans s7⟩
        · rw [hu]
          refine ⟨_, rfl, rfl, _, rfl, iteF (iteF ⟨_, rfl, rfl, _, rfl, iteT ?_⟩)⟩
          refine ⟨_, rfl, x, some dx, rfl, hx, fun H8 s8 => ⟨_, rfl, iteF ?_⟩⟩
          exact ⟨_, _, rfl, (s6.trans s7).trans s8⟩
      · rintro σ H6 ⟨o5, o6, rfl, s6⟩
        refine ⟨fun σ H' => ∃ (o5 o6 : Option V), σ = [some (.ref a), some (.int c), some (.ref R), some (.ref p3), some (dueV (due ss)), o5, o6] ∧ Same H4 H', ?_, ?_⟩
        · cases hd : due ss with
          | none =>
            refine ⟨_, rfl, rfl, _, rfl, iteF (iteF ?_)⟩
            exact ⟨_, _, rfl, s6⟩
          | some u =>
            refine ⟨_, rfl, rfl, _, rfl, iteT ?_⟩
            refine ⟨_, rfl, R, ss, u, rfl, hT.mono s6, hl, hok, hd, fun H7 s7 => ⟨_, rfl, _, rfl, iteF ?_⟩⟩
            have s67 := s6.trans s7
            refine ⟨_, rfl, R, ss, u, rfl, hT.mono s67, hl, hok, hd, fun H8 s8 => ⟨_, rfl, rfl, _, rfl, iteNS rfl ?_⟩⟩
            exact ⟨_, _, rfl, s67.trans s8⟩
        · rintro σ' H7 ⟨o5, o6, rfl, s7⟩
          obtain ⟨vs', g1, g2⟩ := hT.mono s7
          rw [s7 _ _ (s4 _ _ eR)] at g1
          cases g1
          obtain ⟨l1, l2⟩ := lay_sts hok
          have ly : (PyData.list (ss.map Stp.dat)).canLay0 = true := by simp only [PyData.canLay0]; exact l1
          refine ⟨_, rfl, _, rfl, .list (ss.map Stp.dat), .list (ss.map Stp.dat), .lst trivial (SqL.of (s7 _ _ (s4 _ _ eR))) g2.das, .lst trivial (SqL.of (s7 _ _ e4)) g2.das, ⟨ly, ly, by simp only [PyData.depth]; omega⟩, _, rfl, ?_⟩
          have ee : PyData.eqv (.list (ss.map Stp.dat)) (.list (ss.map Stp.dat)) = true := by simp only [PyData.eqv]; exact eqv_sts ss
          rw [ee]
          exact iteF ⟨_, _, _, _, _, _, rfl, sH.trans (t3.trans (s4.trans s7))⟩
    · rintro σ H1 ⟨o1, o2, o3, o4, o5, o6, rfl, sH⟩
      exact k H1
end

/-- what the top has written of one def -/
structure At (K : PySem.W.Frag) (x : Str) (st : Stmt) (f : Addr) (fd : FuncData) : Prop where
  fn : Fun K x x st f fd
  ns : PySem.W.nsIn K mainGlobals x = some (some (.ref f))
theorem at_mk {K : PySem.W.Frag} {x : Str} {st : Stmt} {f : Addr} {oc : Value} {od an : Option Addr} {osl : Array (Option Value)} {kV doc pm cdv ct : Value} (a : PySem.W.nsIn K mainGlobals x = some (some (.ref f))) (l : K.lookup f = some ⟨oc, od, .func (PySem.W.fnOf x x (defArgs st) (defBody st) (defScope st) .none kV doc pm an cdv ct), osl⟩)
    (c : PySem.W.codeIn K cdv x = true) (k : PySem.W.keepIn K (.ref f) = true) : ∃ f fd, At K x st f fd := ⟨f, _, fun_mk l c k, a⟩
theorem kit_ref {K : PySem.W.Frag} {CN C : Addr} {cd : ClassData} {b : Bool} (h0 : (Value.ref CN == Value.ref C) = false) (h1 : PySem.W.clsIn K C = some cd) (h2 : PySem.W.typeIn K (.ref C) = some (.type "type")) (h3 : PySem.W.subIn K (.ref CN) (.ref C) = some b) : PySem.W.kitOne K (.ref CN) (.ref C) = some b := by
  unfold PySem.W.kitOne PySem.W.kitCls
  rw [if_neg (by rw [h0]; decide)]
  show (if ((PySem.W.clsIn K C).isSome && PySem.W.typeIn K (.ref C) == some (.type "type")) = true then PySem.W.subIn K (.ref CN) (.ref C) else none) = some b
  rw [h1, h2, h3]
  rfl
theorem kit_ty {K : PySem.W.Frag} {CN : Addr} {T : String} {b : Bool} (h0 : (Value.ref CN == Value.type T) = false) (h1 : PySem.W.kitMeta T = true) (h3 : PySem.W.subIn K (.ref CN) (.type T) = some b) : PySem.W.kitOne K (.ref CN) (.type T) = some b := by
  unfold PySem.W.kitOne PySem.W.kitCls
  rw [if_neg (by rw [h0]; decide)]
  show (if PySem.W.kitMeta T = true then PySem.W.subIn K (.ref CN) (.type T) else none) = some b
  rw [if_pos h1, h3]
theorem all_mk {l : PySem.W.OpenLaw} {w : World} {K : PySem.W.Frag} {h : Heap} {mg : Str → Option Value} {fa fL : Addr} (X : K.In h) (G : h.Ns mainGlobals mg) (hfa : mg "law" = some (.ref fa)) (A0 : ∃ f fd, At K "column_of" sCol f fd) (A1 : ∃ f fd, At K "columns_of" sCols f fd) (A2 : ∃ f fd, At K "sum_of_products" sDot f fd) (A3 : ∃ f fd, At K "sums_with_each" sEach f fd) (A4 : ∃ f fd, At K "product_of_grids" sProd f fd) (A5 : ∃ f fd, At K "in_one_list" sInOne f fd) (A6 : ∃ f fd, At K "in_square" sInSq f fd) (A7 : ∃ f fd, At K "greatest_divisor" sGd f fd) (A8 : ∃ f fd, At K "fraction_of" sFr f fd) (A9 : ∃ f fd, At K "inner_terms" sInner f fd) (A10 : ∃ f fd, At K "shared_by_all" sAll f fd) (A11 : ∃ f fd, At K "lowered" sLowered f fd) (A12 : ∃ f fd, At K "one_by_one_product" sBothRow f fd) (A13 : ∃ f fd, At K "one_by_one_sum" sPlusRow f fd) (A14 : ∃ f fd, At K "many_times" sManyRow f fd) (A15 : ∃ f fd, At K "one_then_other" sThen f fd) (A16 : ∃ f fd, At K "tops_where_same" sWhereSame f fd) (A17 : ∃ f fd, At K "tops_of_leaf" sLeaf f fd) (A18 : ∃ f fd, At K "tops_from_one" sFromOne f fd) (A19 : ∃ f fd, At K "value_from_two" sFromTwo f fd) (A20 : ∃ f fd, At K "value_by_kind" sByKind f fd) (A21 : ∃ f fd, At K "shared_by_any" sAny f fd) (A22 : ∃ f fd, At K "fractions_of_value" sFrs f fd) (A23 : ∃ f fd, At K "total_of_value" sTot f fd) (A24 : ∃ f fd, At K "named_by" sNamed f fd) (A25 : ∃ f fd, At K "look_at_steps" sLook f fd) (A26 : ∃ f fd, At K "value_of_step" sValStep f fd) (A27 : ∃ f fd, At K "values_of_steps" sVals f fd) (A28 : ∃ f fd, At K "tables_of_steps" sTables f fd) (A29 : ∃ f fd, At K "steps_total" sTotal f fd) (A30 : ∃ f fd, At K "_law_whole" sWhole f fd) (A31 : ∃ f fd, At K "_law_mix" sMix f fd) (A32 : ∃ f fd, At K "_law_begun" sBegun f fd) (A33 : ∃ f fd, At K "_law_take" sTake f fd) (A34 : ∃ f fd, At K "_law_is" sIs f fd) (A35 : ∃ f fd, At K "_law_number" sNumber f fd) (A36 : ∃ f fd, At K "_law_steps" sSteps f fd) (A37 : ∃ f fd, At K "_law_due" sDue f fd) (A38 : ∃ f fd, At K "_law_caught" sCaught f fd) (A39 : ∃ f fd, At K "_law_place" sPlace f fd)
    {CK : Addr} (aK : PySem.W.nsIn K mainGlobals "KinError" = some (some (.ref CK))) {ocK : Value} {odK : Option Addr} {cdK : ClassData} {slK : Array (Option Value)} {bmK : List Value} (lK : K.lookup CK = some ⟨ocK, odK, .cls cdK, slK⟩) (mK : cdK.mro = .ref CK :: bmK) (okK : PySem.W.excIn K CK bmV "ValueError.__new__" = true) (gaK : PySem.W.findIn K (.ref CK) "__getattribute__" = some (some (.builtin "BaseException.__getattribute__"))) (gtK : PySem.W.findIn K (.ref CK) "__getattr__" = some none) (clK : PySem.W.findIn K (.ref CK) "__class__" = some (some (.builtin "object.__class__"))) {CW : Addr} (aW : PySem.W.nsIn K mainGlobals "NoWeb" = some (some (.ref CW))) {CS : Addr} (aS : PySem.W.nsIn K mainGlobals "NoStep" = some (some (.ref CS))) {CO : Addr} (aO : PySem.W.nsIn K mainGlobals "NoOrder" = some (some (.ref CO))) {CT : Addr} (aT : PySem.W.nsIn K mainGlobals "NoText" = some (some (.ref CT))) {CM : Addr} (aM : PySem.W.nsIn K mainGlobals "NoName" = some (some (.ref CM))) {CI : Addr} (aI : PySem.W.nsIn K mainGlobals "NoLine" = some (some (.ref CI))) (kit0 : PySem.W.kitOne K (.ref CS) (.ref CW) = some false) (kit1 : PySem.W.kitOne K (.ref CS) (.ref CS) = some true) (kit2 : PySem.W.kitOne K (.ref CS) (.ref CO) = some false) (kit3 : PySem.W.kitOne K (.ref CS) (.ref CT) = some false) (kit4 : PySem.W.kitOne K (.ref CS) (.ref CM) = some false) (kit5 : PySem.W.kitOne K (.ref CS) (.ref CI) = some false) (kit6 : PySem.W.kitOne K (.ref CS) (.type "ValueError") = some true) {aTb : Addr} {fI NW : Addr} {nmW qnW : Str} {bsW : List Value} {snW : List Str} {subW : List Value} {abW : Bool} {colW : Option Bool} {ddW : Option Addr} {k0 k1 k2 k3 k5 : Option Value} {ocI kVI docI pmI cdvI ctI : Value} {odI anI : Option Addr} {oslI : Array (Option Value)} (aTn : PySem.W.nsIn K mainGlobals "INNER_TERMS" = some (some (.ref aTb))) (tbl : PyProof.Rows.KTD.tabLook (PyProof.Rows.KTD.datLooks fun b => K.lookup b) (fun b => K.lookup b) aTb (tabD inTab) = true) (lkW : K.lookup CS = some (excClassObj nmW qnW CS NW bsW (.ref CK :: bmV) true snW subW abW colW ddW k0 k1 k2 k3 k5 "ValueError.__new__")) (okW : PySem.W.nsOkIn K NW = true) (inW : PySem.W.nsIn K NW "__init__" = some (some (.ref fI))) (gaW : PySem.W.findIn K (.ref CS) "__getattribute__" = some (some (.builtin "BaseException.__getattribute__"))) (gtW : PySem.W.findIn K (.ref CS) "__getattr__" = some none) (clW : PySem.W.findIn K (.ref CS) "__class__" = some (some (.builtin "object.__class__"))) (saW : PySem.W.findIn K (.ref CS) "__setattr__" = some (some (.builtin "object.__setattr__"))) (plW : PySem.W.findIn K (.ref CS) "place" = some none) (fnW : PySem.W.isFn K (.ref fI) = true) (kpW : PySem.W.keepIn K (.ref CS) = true) (lI : K.lookup fI = some ⟨ocI, odI, .func (PySem.W.fnOf "__init__" "NoStep.__init__" (defArgs sInit) (defBody sInit) (defScope sInit) .none kVI docI pmI anI cdvI ctI), oslI⟩) (cI : PySem.W.codeIn K cdvI "NoStep.__init__" = true) (kI : PySem.W.keepIn K (.ref fI) = true) (spK : PySem.W.specialIn K (.ref CK) "__getattribute__" = some (some (.builtin "type.__getattribute__"))) (rdK : PySem.W.readsIn K CK (.type "type") = true) (fcK : PySem.W.findCls K (.ref CK) (.type "type") "__init__" = some (.val (.builtin "ValueError.__init__"))) (eqK : bmK = bmV)
    {oc kV doc pm cdv ct : Value} {od an : Option Addr} {osl : Array (Option Value)} (aL : PySem.W.nsIn K mainGlobals "law" = some (some (.ref fL))) (lL : K.lookup fL = some ⟨oc, od, .func (PySem.W.fnOf "law" "law" (defArgs sLaw) (defBody sLaw) (defScope sLaw) .none kV doc pm an cdv ct), osl⟩) (cL : PySem.W.codeIn K cdv "law" = true) (kL : PySem.W.keepIn K (.ref fL) = true)
    (z_abs : PySem.W.nsIn K mainGlobals "abs" = some none) (z_len : PySem.W.nsIn K mainGlobals "len" = some none) (z_sum : PySem.W.nsIn K mainGlobals "sum" = some none) (z_zip : PySem.W.nsIn K mainGlobals "zip" = some none) (z_range : PySem.W.nsIn K mainGlobals "range" = some none) (z_enumerate : PySem.W.nsIn K mainGlobals "enumerate" = some none) (z_isinstance : PySem.W.nsIn K mainGlobals "isinstance" = some none) (z_ValueError : PySem.W.nsIn K mainGlobals "ValueError" = some none) (z_int : PySem.W.nsIn K mainGlobals "int" = some none) (z_bool : PySem.W.nsIn K mainGlobals "bool" = some none) (z_list : PySem.W.nsIn K mainGlobals "list" = some none) (z_tuple : PySem.W.nsIn K mainGlobals "tuple" = some none) :
    ∃ fd : FuncData, (∀ (s : Shared) (v : Value), BindsTo s fd ⟨[v], []⟩ [("_law_script", v)]) ∧ ∀ base : Heap, K.In base → base.Ns mainGlobals mg → FnOk l.prog w K mg base CX0 11 fa fd ["_law_script"] (spLaw K) := by
  have e := hfa.symm.trans (PySem.W.mg_of X G aL)
  cases e
  obtain ⟨f0, fd0, T0⟩ := A0
  have D0 : Dn K mg "column_of" sCol ["rows", "place"] f0 fd0 := ⟨T0.fn, PySem.W.mg_of X G T0.ns, T0.fn.binds fun _ _ _ _ _ _ us hl => match us, hl with | [_, _], _ => rfl⟩
  obtain ⟨f1, fd1, T1⟩ := A1
  have D1 : Dn K mg "columns_of" sCols ["rows"] f1 fd1 := ⟨T1.fn, PySem.W.mg_of X G T1.ns, T1.fn.binds fun _ _ _ _ _ _ us hl => match us, hl with | [_], _ => rfl⟩
  obtain ⟨f2, fd2, T2⟩ := A2
  have D2 : Dn K mg "sum_of_products" sDot ["numbers", "others"] f2 fd2 := ⟨T2.fn, PySem.W.mg_of X G T2.ns, T2.fn.binds fun _ _ _ _ _ _ us hl => match us, hl with | [_, _], _ => rfl⟩
  obtain ⟨f3, fd3, T3⟩ := A3
  have D3 : Dn K mg "sums_with_each" sEach ["numbers", "rows"] f3 fd3 := ⟨T3.fn, PySem.W.mg_of X G T3.ns, T3.fn.binds fun _ _ _ _ _ _ us hl => match us, hl with | [_, _], _ => rfl⟩
  obtain ⟨f4, fd4, T4⟩ := A4
  have D4 : Dn K mg "product_of_grids" sProd ["rows", "others"] f4 fd4 := ⟨T4.fn, PySem.W.mg_of X G T4.ns, T4.fn.binds fun _ _ _ _ _ _ us hl => match us, hl with | [_, _], _ => rfl⟩
  obtain ⟨f5, fd5, T5⟩ := A5
  have D5 : Dn K mg "in_one_list" sInOne ["rows"] f5 fd5 := ⟨T5.fn, PySem.W.mg_of X G T5.ns, T5.fn.binds fun _ _ _ _ _ _ us hl => match us, hl with | [_], _ => rfl⟩
  obtain ⟨f6, fd6, T6⟩ := A6
  have D6 : Dn K mg "in_square" sInSq ["things", "size"] f6 fd6 := ⟨T6.fn, PySem.W.mg_of X G T6.ns, T6.fn.binds fun _ _ _ _ _ _ us hl => match us, hl with | [_, _], _ => rfl⟩
  obtain ⟨f7, fd7, T7⟩ := A7
  have D7 : Dn K mg "greatest_divisor" sGd ["number", "other"] f7 fd7 := ⟨T7.fn, PySem.W.mg_of X G T7.ns, T7.fn.binds fun _ _ _ _ _ _ us hl => match us, hl with | [_, _], _ => rfl⟩
  obtain ⟨f8, fd8, T8⟩ := A8
  have D8 : Dn K mg "fraction_of" sFr ["top", "bottom"] f8 fd8 := ⟨T8.fn, PySem.W.mg_of X G T8.ns, T8.fn.binds fun _ _ _ _ _ _ us hl => match us, hl with | [_, _], _ => rfl⟩
  obtain ⟨f9, fd9, T9⟩ := A9
  have D9 : Dn K mg "inner_terms" sInner ["term"] f9 fd9 := ⟨T9.fn, PySem.W.mg_of X G T9.ns, T9.fn.binds fun _ _ _ _ _ _ us hl => match us, hl with | [_], _ => rfl⟩
  obtain ⟨f10, fd10, T10⟩ := A10
  have D10 : Dn K mg "shared_by_all" sAll ["divisor", "tops"] f10 fd10 := ⟨T10.fn, PySem.W.mg_of X G T10.ns, T10.fn.binds fun _ _ _ _ _ _ us hl => match us, hl with | [_, _], _ => rfl⟩
  obtain ⟨f11, fd11, T11⟩ := A11
  have D11 : Dn K mg "lowered" sLowered ["tops", "bottom"] f11 fd11 := ⟨T11.fn, PySem.W.mg_of X G T11.ns, T11.fn.binds fun _ _ _ _ _ _ us hl => match us, hl with | [_, _], _ => rfl⟩
  obtain ⟨f12, fd12, T12⟩ := A12
  have D12 : Dn K mg "one_by_one_product" sBothRow ["value", "other"] f12 fd12 := ⟨T12.fn, PySem.W.mg_of X G T12.ns, T12.fn.binds fun _ _ _ _ _ _ us hl => match us, hl with | [_, _], _ => rfl⟩
  obtain ⟨f13, fd13, T13⟩ := A13
  have D13 : Dn K mg "one_by_one_sum" sPlusRow ["value", "other"] f13 fd13 := ⟨T13.fn, PySem.W.mg_of X G T13.ns, T13.fn.binds fun _ _ _ _ _ _ us hl => match us, hl with | [_, _], _ => rfl⟩
  obtain ⟨f14, fd14, T14⟩ := A14
  have D14 : Dn K mg "many_times" sManyRow ["f", "value"] f14 fd14 := ⟨T14.fn, PySem.W.mg_of X G T14.ns, T14.fn.binds fun _ _ _ _ _ _ us hl => match us, hl with | [_, _], _ => rfl⟩
  obtain ⟨f15, fd15, T15⟩ := A15
  have D15 : Dn K mg "one_then_other" sThen ["size", "value", "other"] f15 fd15 := ⟨T15.fn, PySem.W.mg_of X G T15.ns, T15.fn.binds fun _ _ _ _ _ _ us hl => match us, hl with | [_, _, _], _ => rfl⟩
  obtain ⟨f16, fd16, T16⟩ := A16
  have D16 : Dn K mg "tops_where_same" sWhereSame ["tops"] f16 fd16 := ⟨T16.fn, PySem.W.mg_of X G T16.ns, T16.fn.binds fun _ _ _ _ _ _ us hl => match us, hl with | [_], _ => rfl⟩
  obtain ⟨f17, fd17, T17⟩ := A17
  have D17 : Dn K mg "tops_of_leaf" sLeaf ["web", "term"] f17 fd17 := ⟨T17.fn, PySem.W.mg_of X G T17.ns, T17.fn.binds fun _ _ _ _ _ _ us hl => match us, hl with | [_, _], _ => rfl⟩
  obtain ⟨f18, fd18, T18⟩ := A18
  have D18 : Dn K mg "tops_from_one" sFromOne ["web", "kind", "tops"] f18 fd18 := ⟨T18.fn, PySem.W.mg_of X G T18.ns, T18.fn.binds fun _ _ _ _ _ _ us hl => match us, hl with | [_, _, _], _ => rfl⟩
  obtain ⟨f19, fd19, T19⟩ := A19
  have D19 : Dn K mg "value_from_two" sFromTwo ["web", "kind", "value", "other"] f19 fd19 := ⟨T19.fn, PySem.W.mg_of X G T19.ns, T19.fn.binds fun _ _ _ _ _ _ us hl => match us, hl with | [_, _, _, _], _ => rfl⟩
  obtain ⟨f20, fd20, T20⟩ := A20
  have D20 : Dn K mg "value_by_kind" sByKind ["web", "term", "inner_values"] f20 fd20 := ⟨T20.fn, PySem.W.mg_of X G T20.ns, T20.fn.binds fun _ _ _ _ _ _ us hl => match us, hl with | [_, _, _], _ => rfl⟩
  obtain ⟨f21, fd21, T21⟩ := A21
  have D21 : Dn K mg "shared_by_any" sAny ["tops", "bottom"] f21 fd21 := ⟨T21.fn, PySem.W.mg_of X G T21.ns, T21.fn.binds fun _ _ _ _ _ _ us hl => match us, hl with | [_, _], _ => rfl⟩
  obtain ⟨f22, fd22, T22⟩ := A22
  have D22 : Dn K mg "fractions_of_value" sFrs ["value"] f22 fd22 := ⟨T22.fn, PySem.W.mg_of X G T22.ns, T22.fn.binds fun _ _ _ _ _ _ us hl => match us, hl with | [_], _ => rfl⟩
  obtain ⟨f23, fd23, T23⟩ := A23
  have D23 : Dn K mg "total_of_value" sTot ["value"] f23 fd23 := ⟨T23.fn, PySem.W.mg_of X G T23.ns, T23.fn.binds fun _ _ _ _ _ _ us hl => match us, hl with | [_], _ => rfl⟩
  obtain ⟨f24, fd24, T24⟩ := A24
  have D24 : Dn K mg "named_by" sNamed ["step"] f24 fd24 := ⟨T24.fn, PySem.W.mg_of X G T24.ns, T24.fn.binds fun _ _ _ _ _ _ us hl => match us, hl with | [_], _ => rfl⟩
  obtain ⟨f25, fd25, T25⟩ := A25
  have D25 : Dn K mg "look_at_steps" sLook ["steps"] f25 fd25 := ⟨T25.fn, PySem.W.mg_of X G T25.ns, T25.fn.binds fun _ _ _ _ _ _ us hl => match us, hl with | [_], _ => rfl⟩
  obtain ⟨f26, fd26, T26⟩ := A26
  have D26 : Dn K mg "value_of_step" sValStep ["web", "step", "values"] f26 fd26 := ⟨T26.fn, PySem.W.mg_of X G T26.ns, T26.fn.binds fun _ _ _ _ _ _ us hl => match us, hl with | [_, _, _], _ => rfl⟩
  obtain ⟨f27, fd27, T27⟩ := A27
  have D27 : Dn K mg "values_of_steps" sVals ["web", "steps"] f27 fd27 := ⟨T27.fn, PySem.W.mg_of X G T27.ns, T27.fn.binds fun _ _ _ _ _ _ us hl => match us, hl with | [_, _], _ => rfl⟩
  obtain ⟨f28, fd28, T28⟩ := A28
  have D28 : Dn K mg "tables_of_steps" sTables ["web", "steps"] f28 fd28 := ⟨T28.fn, PySem.W.mg_of X G T28.ns, T28.fn.binds fun _ _ _ _ _ _ us hl => match us, hl with | [_, _], _ => rfl⟩
  obtain ⟨f29, fd29, T29⟩ := A29
  have D29 : Dn K mg "steps_total" sTotal ["web", "steps"] f29 fd29 := ⟨T29.fn, PySem.W.mg_of X G T29.ns, T29.fn.binds fun _ _ _ _ _ _ us hl => match us, hl with | [_, _], _ => rfl⟩
  obtain ⟨f30, fd30, T30⟩ := A30
  have D30 : Dn K mg "_law_whole" sWhole ["_law_found"] f30 fd30 := ⟨T30.fn, PySem.W.mg_of X G T30.ns, T30.fn.binds fun _ _ _ _ _ _ us hl => match us, hl with | [_], _ => rfl⟩
  obtain ⟨f31, fd31, T31⟩ := A31
  have D31 : Dn K mg "_law_mix" sMix ["_law_cell", "_law_k"] f31 fd31 := ⟨T31.fn, PySem.W.mg_of X G T31.ns, T31.fn.binds fun _ _ _ _ _ _ us hl => match us, hl with | [_, _], _ => rfl⟩
  obtain ⟨f32, fd32, T32⟩ := A32
  have D32 : Dn K mg "_law_begun" sBegun ["_law_cell"] f32 fd32 := ⟨T32.fn, PySem.W.mg_of X G T32.ns, T32.fn.binds fun _ _ _ _ _ _ us hl => match us, hl with | [_], _ => rfl⟩
  obtain ⟨f33, fd33, T33⟩ := A33
  have D33 : Dn K mg "_law_take" sTake ["_law_draw", "_law_most"] f33 fd33 := ⟨T33.fn, PySem.W.mg_of X G T33.ns, T33.fn.binds fun _ _ _ _ _ _ us hl => match us, hl with | [_, _], _ => rfl⟩
  obtain ⟨f34, fd34, T34⟩ := A34
  have D34 : Dn K mg "_law_is" sIs ["_law_caught_here", "_law_at"] f34 fd34 := ⟨T34.fn, PySem.W.mg_of X G T34.ns, T34.fn.binds fun _ _ _ _ _ _ us hl => match us, hl with | [_, _], _ => rfl⟩
  obtain ⟨f35, fd35, T35⟩ := A35
  have D35 : Dn K mg "_law_number" sNumber ["_law_draw", "_law_k", "_law_way"] f35 fd35 := ⟨T35.fn, PySem.W.mg_of X G T35.ns, T35.fn.binds fun _ _ _ _ _ _ us hl => match us, hl with | [_, _, _], _ => rfl⟩
  obtain ⟨f36, fd36, T36⟩ := A36
  have D36 : Dn K mg "_law_steps" sSteps ["_law_draw"] f36 fd36 := ⟨T36.fn, PySem.W.mg_of X G T36.ns, T36.fn.binds fun _ _ _ _ _ _ us hl => match us, hl with | [_], _ => rfl⟩
  obtain ⟨f37, fd37, T37⟩ := A37
  have D37 : Dn K mg "_law_due" sDue ["_law_steps_here"] f37 fd37 := ⟨T37.fn, PySem.W.mg_of X G T37.ns, T37.fn.binds fun _ _ _ _ _ _ us hl => match us, hl with | [_], _ => rfl⟩
  obtain ⟨f38, fd38, T38⟩ := A38
  have D38 : Dn K mg "_law_caught" sCaught ["_law_steps_here", "_law_way"] f38 fd38 := ⟨T38.fn, PySem.W.mg_of X G T38.ns, T38.fn.binds fun _ _ _ _ _ _ us hl => match us, hl with | [_, _], _ => rfl⟩
  obtain ⟨f39, fd39, T39⟩ := A39
  have D39 : Dn K mg "_law_place" sPlace ["_law_steps_here"] f39 fd39 := ⟨T39.fn, PySem.W.mg_of X G T39.ns, T39.fn.binds fun _ _ _ _ _ _ us hl => match us, hl with | [_], _ => rfl⟩
  have FL := fun_mk (st := sLaw) lL cL kL
  have B : BltR mg := ⟨PySem.W.mg_none_of X G z_abs, PySem.W.mg_none_of X G z_len, PySem.W.mg_none_of X G z_sum, PySem.W.mg_none_of X G z_zip, PySem.W.mg_none_of X G z_range, PySem.W.mg_none_of X G z_enumerate, PySem.W.mg_none_of X G z_isinstance, PySem.W.mg_none_of X G z_ValueError, PySem.W.mg_none_of X G z_int, PySem.W.mg_none_of X G z_bool, PySem.W.mg_none_of X G z_list, PySem.W.mg_none_of X G z_tuple⟩
  have gT := PySem.W.mg_of X G aTn
  have TB : TabK K aTb inTab := ⟨tbl⟩
  have ZK : Exc K CK bmV := ⟨okK, ⟨_, _, _, _, lK, by rw [mK, eqK]⟩, gaK, gtK, clK⟩
  have Z : ExcI K CS CK fI := ⟨⟨_, _, _, _, _, _, _, _, _, _, _, _, _, _, lkW, okW, inW⟩, ZK, gaW, gtW, clW, saW, fnW⟩
  have BI : BInit K CK := ⟨spK, rdK, fcK⟩
  have FI := fun_mk (st := sInit) (qual := "NoStep.__init__") lI cI kI
  have bI := FI.binds (ps := nInit) fun _ _ _ _ _ _ us hl => match us, hl with | [_, _], _ => rfl
  have mK' := PySem.W.mg_of X G aK
  have mS' := PySem.W.mg_of X G aS
  refine ⟨PySem.W.fnOf "law" "law" (defArgs sLaw) (defBody sLaw) (defScope sLaw) .none kV doc pm an cdv ct, fun s v => .of_eq rfl, fun base _ _ => ?_⟩
  have GCo := ok_col (P := l.prog) (w := w) (base := base) (mg := mg) D0.fn
  have GCs := ok_cols B D1.fn D0 GCo
  have GDo := ok_dot (P := l.prog) (w := w) (base := base) B D2.fn
  have GEa := ok_eachG D3.fn D2 GDo
  have GPg := ok_prod D4.fn D1 GCs D3 GEa
  have GIo := ok_inOne (P := l.prog) (w := w) (base := base) (mg := mg) D5.fn
  have GSq := ok_inSq (P := l.prog) (w := w) (base := base) B D6.fn
  have GG := ok_gd (P := l.prog) (w := w) (base := base) B D7.fn
  have GF := ok_fr B D8.fn D7 GG
  have GAl := ok_all D10.fn D7 GG
  have GLw := ok_lowered D11.fn D10 GAl
  have GBo := ok_both B D12.fn D11 GLw
  have GPr := ok_plusR B D13.fn D11 GLw
  have GMa := ok_many D14.fn D7 GG D10 GAl
  have GTn := ok_then D15.fn D4 GPg D6 GSq D5 GIo D11 GLw
  have GWs := ok_where (P := l.prog) (w := w) (base := base) B D16.fn
  have GLe := ok_leaf B D17.fn D16 GWs D5 GIo
  have GFo := ok_fromOne B D18.fn D16 GWs D6 GSq D1 GCs D5 GIo
  have GT2 := ok_two B D19.fn D12 GBo D13 GPr D15 GTn
  have GK := ok_byKind B D20.fn D17 GLe D18 GFo D19 GT2 D14 GMa
  have GAn := ok_any D21.fn D7 GG
  have GFs := ok_frs D22.fn D21 GAn D7 GG
  have GTt := ok_tot B D23.fn D8 GF
  have GIn := ok_inner (P := l.prog) (w := w) (base := base) B gT TB D9.fn
  have GNa := ok_named D24.fn D9 GIn
  have GIt := ok_init (P := l.prog) (w := w) (base := base) (mg := mg) Z BI mK' plW FI
  have GLk := ok_look B Z kpW mS' bI GIt D25.fn D24 GNa
  have GVs := ok_valStep D26.fn D24 GNa D20 GK
  have GVa := ok_vals D27.fn D25 GLk D26 GVs
  have GTb := ok_tables B D28.fn D27 GVa D22 GFs D6 GSq
  have GTo := ok_total D29.fn D27 GVa D23 GTt
  have GWh := ok_whole (P := l.prog) (w := w) (base := base) B D30.fn
  have GB := ok_begun (P := l.prog) (w := w) (base := base) (mg := mg) D32.fn
  have GTk := ok_take (P := l.prog) (w := w) (base := base) D33.fn D31
  have GIs := ok_is (P := l.prog) (w := w) (base := base) B Z.w ⟨CW, PySem.W.mg_of X G aW, kit0⟩ ⟨CS, mS', kit1⟩ ⟨CO, PySem.W.mg_of X G aO, kit2⟩ ⟨CT, PySem.W.mg_of X G aT, kit3⟩ ⟨CM, PySem.W.mg_of X G aM, kit4⟩ ⟨CI, PySem.W.mg_of X G aI, kit5⟩ kit6 D34.fn
  have GNu := ok_number D35.fn D33 GTk
  have GSt := ok_steps B D36.fn D33 GTk D35 GNu
  have GDu := ok_due (P := l.prog) (w := w) (base := base) B D37.fn
  have GCa := ok_caught Z mK' D38.fn D25 GLk D28 GTb D29 GTo
  have GPl := ok_place Z plW mS' D39.fn D25 GLk
  exact ok_law B FL D32 GB D36 GSt D37 GDu D38 GCa D34 GIs D39 GPl D30 GWh
theorem walk {l : PySem.W.OpenLaw} {q : Program} {loose : List Str} {XP : (Str → Option Value) → Heap → Prop} {YP : World → Heap → Prop} {d : DefRec} {K : Params → PySem.W.Frag} (hn : l.most = some 63) (hdf : d.params.defaults = [])
    (hY : ∀ (w : World) (h : Heap), YP w h → (K w.params).In h)
    (F : ∀ (w : World) (mg : Str → Option Value) (fa : Addr) (h : Heap), (K w.params).In h → h.Ns mainGlobals mg → mg d.name = some (.ref fa) →
      ∃ fd : FuncData, (∀ (s : Shared) (u : Value), BindsTo s fd ⟨[u], []⟩ [("_law_script", u)]) ∧ ∀ base : Heap, (K w.params).In base → base.Ns mainGlobals mg → FnOk l.prog w (K w.params) mg base CX0 11 fa fd ["_law_script"] (spLaw (K w.params))) :
    PySem.W.WalkO q loose XP YP l.row.toRowW d [] (fun f vs => PySem.call f vs) :=
  L2.walk_of (n := 63) (k := 11) (x := "_law_script") (CX := fun _ => CX0) (sp := fun w => spLaw (K w.params)) hn (by decide) hdf ⟨rfl, by decide, by decide⟩ hY F (fun _ _ a ns hl _ hS => ⟨a, ns, rfl, hS, hl, fun _ => rfl⟩) fun _ _ _ _ _ z => z
end My
open PySem PySem.W PyProof.Rows
noncomputable def PySem.W.Fast.tw18388466911039583871 : Unit := ()
noncomputable def PySem.W.Fast.tw7153858678771277297 : Unit := ()
noncomputable def PySem.W.Fast.tw18234637701647514575 : Unit := ()
set_option maxRecDepth 100000 in
set_option maxHeartbeats 0 in
theorem PySem.Challenge.cw_evenkin_k63_steps_refused_holds : PySem.Challenge.rw_evenkin_k63_steps_refused.Holds := by
  w_on; o_law; k_head; (case hw => w_witness2)
  k_fill
  refine My.walk (l := PySem.Challenge.rw_evenkin_k63_steps_refused) rfl rfl (fun w h Y => PySem.W.kIn_of Y) ?F
  case F =>
    intro w mg fa h KX G hmg
    refine' My.all_mk KX G hmg (My.at_mk ?a0 ?l0 ?c0 ?k0) (My.at_mk ?a1 ?l1 ?c1 ?k1) (My.at_mk ?a2 ?l2 ?c2 ?k2) (My.at_mk ?a3 ?l3 ?c3 ?k3) (My.at_mk ?a4 ?l4 ?c4 ?k4) (My.at_mk ?a5 ?l5 ?c5 ?k5) (My.at_mk ?a6 ?l6 ?c6 ?k6) (My.at_mk ?a7 ?l7 ?c7 ?k7) (My.at_mk ?a8 ?l8 ?c8 ?k8) (My.at_mk ?a9 ?l9 ?c9 ?k9) (My.at_mk ?a10 ?l10 ?c10 ?k10) (My.at_mk ?a11 ?l11 ?c11 ?k11) (My.at_mk ?a12 ?l12 ?c12 ?k12) (My.at_mk ?a13 ?l13 ?c13 ?k13) (My.at_mk ?a14 ?l14 ?c14 ?k14) (My.at_mk ?a15 ?l15 ?c15 ?k15) (My.at_mk ?a16 ?l16 ?c16 ?k16) (My.at_mk ?a17 ?l17 ?c17 ?k17) (My.at_mk ?a18 ?l18 ?c18 ?k18) (My.at_mk ?a19 ?l19 ?c19 ?k19) (My.at_mk ?a20 ?l20 ?c20 ?k20) (My.at_mk ?a21 ?l21 ?c21 ?k21) (My.at_mk ?a22 ?l22 ?c22 ?k22) (My.at_mk ?a23 ?l23 ?c23 ?k23) (My.at_mk ?a24 ?l24 ?c24 ?k24) (My.at_mk ?a25 ?l25 ?c25 ?k25) (My.at_mk ?a26 ?l26 ?c26 ?k26) (My.at_mk ?a27 ?l27 ?c27 ?k27) (My.at_mk ?a28 ?l28 ?c28 ?k28) (My.at_mk ?a29 ?l29 ?c29 ?k29) (My.at_mk ?a30 ?l30 ?c30 ?k30) (My.at_mk ?a31 ?l31 ?c31 ?k31) (My.at_mk ?a32 ?l32 ?c32 ?k32) (My.at_mk ?a33 ?l33 ?c33 ?k33) (My.at_mk ?a34 ?l34 ?c34 ?k34) (My.at_mk ?a35 ?l35 ?c35 ?k35) (My.at_mk ?a36 ?l36 ?c36 ?k36) (My.at_mk ?a37 ?l37 ?c37 ?k37) (My.at_mk ?a38 ?l38 ?c38 ?k38) (My.at_mk ?a39 ?l39 ?c39 ?k39) ?aK ?lK ?mK ?okK ?gaK ?gtK ?clK ?aW ?aS ?aO ?aT ?aM ?aI ?kit0 ?kit1 ?kit2 ?kit3 ?kit4 ?kit5 ?kit6 ?aTn ?tbl ?lkW ?okW ?inW ?gaW ?gtW ?clW ?saW ?plW ?fnW ?kpW ?lI ?cI ?kI ?spK ?rdK ?fcK ?eqK ?aL ?lL ?cL ?kL ?z_abs ?z_len ?z_sum ?z_zip ?z_range ?z_enumerate ?z_isinstance ?z_ValueError ?z_int ?z_bool ?z_list ?z_tuple
    (case a0 => k_is); (case l0 => k_is); (case c0 => k_is); (case k0 => k_is)
    (case a1 => k_is); (case l1 => k_is); (case c1 => k_is); (case k1 => k_is)
    (case a2 => k_is); (case l2 => k_is); (case c2 => k_is); (case k2 => k_is)
    (case a3 => k_is); (case l3 => k_is); (case c3 => k_is); (case k3 => k_is)
    (case a4 => k_is); (case l4 => k_is); (case c4 => k_is); (case k4 => k_is)
    (case a5 => k_is); (case l5 => k_is); (case c5 => k_is); (case k5 => k_is)
    (case a6 => k_is); (case l6 => k_is); (case c6 => k_is); (case k6 => k_is)
    (case a7 => k_is); (case l7 => k_is); (case c7 => k_is); (case k7 => k_is)
    (case a8 => k_is); (case l8 => k_is); (case c8 => k_is); (case k8 => k_is)
    (case a9 => k_is); (case l9 => k_is); (case c9 => k_is); (case k9 => k_is)
    (case a10 => k_is); (case l10 => k_is); (case c10 => k_is); (case k10 => k_is)
    (case a11 => k_is); (case l11 => k_is); (case c11 => k_is); (case k11 => k_is)
    (case a12 => k_is); (case l12 => k_is); (case c12 => k_is); (case k12 => k_is)
    (case a13 => k_is); (case l13 => k_is); (case c13 => k_is); (case k13 => k_is)
    (case a14 => k_is); (case l14 => k_is); (case c14 => k_is); (case k14 => k_is)
    (case a15 => k_is); (case l15 => k_is); (case c15 => k_is); (case k15 => k_is)
    (case a16 => k_is); (case l16 => k_is); (case c16 => k_is); (case k16 => k_is)
    (case a17 => k_is); (case l17 => k_is); (case c17 => k_is); (case k17 => k_is)
    (case a18 => k_is); (case l18 => k_is); (case c18 => k_is); (case k18 => k_is)
    (case a19 => k_is); (case l19 => k_is); (case c19 => k_is); (case k19 => k_is)
    (case a20 => k_is); (case l20 => k_is); (case c20 => k_is); (case k20 => k_is)
    (case a21 => k_is); (case l21 => k_is); (case c21 => k_is); (case k21 => k_is)
    (case a22 => k_is); (case l22 => k_is); (case c22 => k_is); (case k22 => k_is)
    (case a23 => k_is); (case l23 => k_is); (case c23 => k_is); (case k23 => k_is)
    (case a24 => k_is); (case l24 => k_is); (case c24 => k_is); (case k24 => k_is)
    (case a25 => k_is); (case l25 => k_is); (case c25 => k_is); (case k25 => k_is)
    (case a26 => k_is); (case l26 => k_is); (case c26 => k_is); (case k26 => k_is)
    (case a27 => k_is); (case l27 => k_is); (case c27 => k_is); (case k27 => k_is)
    (case a28 => k_is); (case l28 => k_is); (case c28 => k_is); (case k28 => k_is)
    (case a29 => k_is); (case l29 => k_is); (case c29 => k_is); (case k29 => k_is)
    (case a30 => k_is); (case l30 => k_is); (case c30 => k_is); (case k30 => k_is)
    (case a31 => k_is); (case l31 => k_is); (case c31 => k_is); (case k31 => k_is)
    (case a32 => k_is); (case l32 => k_is); (case c32 => k_is); (case k32 => k_is)
    (case a33 => k_is); (case l33 => k_is); (case c33 => k_is); (case k33 => k_is)
    (case a34 => k_is); (case l34 => k_is); (case c34 => k_is); (case k34 => k_is)
    (case a35 => k_is); (case l35 => k_is); (case c35 => k_is); (case k35 => k_is)
    (case a36 => k_is); (case l36 => k_is); (case c36 => k_is); (case k36 => k_is)
    (case a37 => k_is); (case l37 => k_is); (case c37 => k_is); (case k37 => k_is)
    (case a38 => k_is); (case l38 => k_is); (case c38 => k_is); (case k38 => k_is)
    (case a39 => k_is); (case l39 => k_is); (case c39 => k_is); (case k39 => k_is)
    (case aK => k_is); (case lK => k_is); (case mK => rfl); (case okK => first | k_is | k_exc); (case gaK => first | k_is | k_exc); (case gtK => first | k_is | k_exc); (case clK => first | k_is | k_exc)
    (case aW => k_is)
    (case aS => k_is)
    (case aO => k_is)
    (case aT => k_is)
    (case aM => k_is)
    (case aI => k_is)
    (case kit0 => first | rfl | (refine My.kit_ref (by decide) ?_ ?_ ?_ <;> k_is) | (refine My.kit_ty (by decide) (by decide +kernel) ?_ <;> k_is))
    (case kit1 => first | rfl | (refine My.kit_ref (by decide) ?_ ?_ ?_ <;> k_is) | (refine My.kit_ty (by decide) (by decide +kernel) ?_ <;> k_is))
    (case kit2 => first | rfl | (refine My.kit_ref (by decide) ?_ ?_ ?_ <;> k_is) | (refine My.kit_ty (by decide) (by decide +kernel) ?_ <;> k_is))
    (case kit3 => first | rfl | (refine My.kit_ref (by decide) ?_ ?_ ?_ <;> k_is) | (refine My.kit_ty (by decide) (by decide +kernel) ?_ <;> k_is))
    (case kit4 => first | rfl | (refine My.kit_ref (by decide) ?_ ?_ ?_ <;> k_is) | (refine My.kit_ty (by decide) (by decide +kernel) ?_ <;> k_is))
    (case kit5 => first | rfl | (refine My.kit_ref (by decide) ?_ ?_ ?_ <;> k_is) | (refine My.kit_ty (by decide) (by decide +kernel) ?_ <;> k_is))
    (case kit6 => first | rfl | (refine My.kit_ref (by decide) ?_ ?_ ?_ <;> k_is) | (refine My.kit_ty (by decide) (by decide +kernel) ?_ <;> k_is))
    (case aTn => k_is)
    (case tbl => first | rfl | with_unfolding_all rfl | decide +kernel)
    (case lkW => k_is)
    (case okW => first | rfl | with_unfolding_all rfl)
    (case inW => k_is)
    (case gaW => k_is)
    (case gtW => k_is)
    (case clW => k_is)
    (case saW => k_is)
    (case plW => k_is)
    (case fnW => k_is)
    (case kpW => k_is)
    (case lI => k_is)
    (case cI => k_is)
    (case kI => k_is)
    (case spK => k_is)
    (case rdK => k_is)
    (case fcK => k_is)
    (case eqK => rfl)
    (case aL => k_is); (case lL => k_is); (case cL => k_is); (case kL => k_is)
    (case z_abs => k_is); (case z_len => k_is); (case z_sum => k_is); (case z_zip => k_is); (case z_range => k_is); (case z_enumerate => k_is); (case z_isinstance => k_is); (case z_ValueError => k_is); (case z_int => k_is); (case z_bool => k_is); (case z_list => k_is); (case z_tuple => k_is)
